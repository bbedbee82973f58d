/- Roomy: a list of bytes behind which 80 marks lie, in memory of its own; nothing that was there changes. -/
import Derived.Test.YtlcilclhaahopaaDoorCells
import Derived.Test.YtlcilclhaahopaaDoorLists
namespace Go.Proofs.YtlcilclhaahopaaDoor
open Go.RowKit
namespace S
/-- bs, m marks, and noughts up to 80 behind it. -/
def roomTo (bs : List UInt8) (m : Nat) : List UInt8 := bs ++ (List.replicate m 165 ++ S.zeros (80 - m))
def roomy (bs : List UInt8) : List UInt8 := bs ++ List.replicate 80 165
theorem roomTo_length (bs : List UInt8) (m : Nat) (h : m ≤ 80) : (roomTo bs m).length = bs.length + 80 := by
  simp only [roomTo, List.length_append, List.length_replicate, zeros_length]; omega
theorem roomy_length (bs : List UInt8) : (roomy bs).length = bs.length + 80 := by
  simp only [roomy, List.length_append, List.length_replicate]
theorem roomTo_all (bs : List UInt8) : roomTo bs 80 = roomy bs := by simp [roomTo, roomy, zeros]
theorem roomTo_set (bs : List UInt8) (m : Nat) (h : m < 80) : (roomTo bs m).set (bs.length + m) 165 = roomTo bs (m + 1) := by
  unfold roomTo
  rw [List.set_append_right _ _ (by omega), Nat.add_sub_cancel_left, List.set_append_right _ _ (by simp)]
  simp only [List.length_replicate, Nat.sub_self]
  have e : zeros (80 - m) = 0 :: zeros (80 - (m + 1)) := by
    simp only [zeros]
    rw [show 80 - m = (80 - (m + 1)) + 1 from by omega, List.replicate_succ]
  rw [e, List.set_cons_zero, List.replicate_succ', List.append_assoc]
  rfl
end S
set_option maxHeartbeats 800000 in
set_option maxRecDepth 100000 in
theorem roomy_any (v : Value) (bs : List UInt8) (w : World) (hv : SliceAt w v bs) (hl : bs.length + 80 ≤ 140737488355328) :
   Calls Tryd.prog 26 #[v, .int .u8 165] w fun e w' => ∃ g, e = .returned (.slice (some ⟨g, 0, none⟩) (bs.length + 80) (bs.length + 80)) ∧ w.heap.size ≤ g ∧ w'.heap[g]? = some (.cells (S.v8 (S.roomy bs)) 5 (0, 0)) ∧ Below w.heap.size w w' := by
  obtain ⟨ao, len, cap, rfl, hlen, hmax, hsrc⟩ := hv.shape
  obtain ⟨N, hN⟩ : ∃ N, N = len + 80 := ⟨_, rfl⟩
  have hmk : ∀ w : World, (Instr.makeSlice 30 (.int .i64 ((len : Int) + 80)) (.int .i64 ((len : Int) + 80))).run Tryd.prog w = .ok (.slice (some ⟨w.heap.size, 0, none⟩) N N) (w.alloc (.cells (S.v8 (S.zeros N)) 5)) := fun w => by
    have h := make_bytes_big N (by omega) w
    rw [show (N : Int) = (len : Int) + 80 from by omega] at h
    exact h
  have HS := hide hsrc
  have HN : Hid ((S.v8l bs).length = Nat.min len N) := by show (S.v8l bs).length = Nat.min len N; rw [S.v8l_length]; show _ = min _ _; omega
  have HF : Hid (0 + (S.v8l bs).length ≤ (S.v8l (S.zeros N)).length) := by show 0 + (S.v8l bs).length ≤ (S.v8l (S.zeros N)).length; rw [S.v8l_length, S.v8l_length, S.zeros_length]; omega
  have HNX : Hid (Below w.heap.size w (w.alloc (.cells (S.v8 (S.zeros N)) 5))) := (Below.refl _ _).alloc (Nat.le_refl _) _
  have HL := hide hlen
  have hNl : N ≤ 140737488355328 := by omega
  have HNN := hide hN
  clear hsrc hv hlen hN
  go_enter Tryd.func26, Tryd.ntmps26
  go_wp2_with (first | (refine wpList_copy_splice rfl (.tmp 11) (.tmp 12) 30 30 rfl 5 Tryd.underlying30 size5 _ _ _ _ _ _ rfl rfl w.heap.size 0 (S.v8l (S.zeros N)) 5 (heap_alloc_new _ _) (S.v8l bs) HN.out (copy_src _ HS.out HNX.out) HF.out (S.v8l_one _) w.heap.size (w.alloc (.cells (S.v8 (S.zeros N)) 5)) (Below.refl _ _) (Nat.le_refl _) ?_; intro w2 HG2 hB2; have HG3 := hide (spl_rowT HG2); clear HG2; have HN2 := hide (HNX.out.trans hB2); clear hB2))
  have rb : w2.heap[w.heap.size]? = some (.cells (S.v8 (S.roomTo bs 0)) 5 (0, 0)) := by
    have e : splice (S.zeros N) 0 bs = S.roomTo bs 0 := by
      rw [splice_front, show N - bs.length = 80 from by have := HL.out; have := HNN.out; omega]
      rfl
    rw [← e]; exact HG3.out
  have RB := hide rb
  clear rb HG3 HNX HF HN HS hmk
  go_loopw [6] (fun i wr => ∃ k m : Nat, k = len + m ∧ m ≤ 80 ∧ i = .int .i64 (k : Int) ∧ wr.heap[w.heap.size]? = some (.cells (S.v8 (S.roomTo bs m)) 5 (0, 0)) ∧ Below w.heap.size w wr) (fun i _ => N - (intOf i).toNat)
  case atStart => exact ⟨len, 0, rfl, by omega, rfl, RB.out, HN2.out⟩
  case round =>
    obtain ⟨k, m, hk, hm, rfl, hrow, hb⟩ := hrel
    clear RB HN2
    by_cases hlt : m < 80
    · have hll := S.roomTo_length bs m hm
      have c1 := v8_cell hrow k (by have := HL.out; omega)
      have f1 := frozen_of_row _ _ k _ _ hrow
      have V1 := hide (v8_set hrow k 165)
      rw [show (S.roomTo bs m).set k 165 = S.roomTo bs (m + 1) from by rw [hk, HL.out]; exact S.roomTo_set bs m hlt] at V1
      have V3 := hide (hb.setCell (p := ⟨w.heap.size, k, none⟩) (Nat.le_refl _) (.int .u8 165))
      have q1 : (0 : Int) ≤ (k : Int) := by omega
      have q2 : (k : Int) < (N : Int) := by have := HNN.out; omega
      have q4 : IntKind.i64.wrap ((k : Int) + 1) = (k : Int) + 1 := by rw [IntKind.wrap_i64]; have := HNN.out; omega
      have HKK := hide hk
      clear hrow hb hk hll
      go_wp2
      go_roundw
      case rel => exact ⟨k + 1, m + 1, by rw [HKK.out]; rfl, by omega, by go_num, V1.out, V3.out⟩
      case measure => simp [intOf]; omega
    · obtain rfl : m = 80 := by omega
      rw [S.roomTo_all] at hrow
      obtain rfl : N = k := by have := HNN.out; omega
      have q2 : ¬ ((N : Int) < (N : Int)) := by omega
      have A := hide hrow
      have B := hide hb
      clear hrow hb
      go_wp2
      go_ret
      exact ⟨w.heap.size, by rw [← HL.out]; rfl, Nat.le_refl _, A.out, B.out⟩
end Go.Proofs.YtlcilclhaahopaaDoor
namespace Go.Proofs.YtlcilclhaahopaaDoor
open Go.RowKit
theorem roomy_at {w : World} {g : Nat} {bs : List UInt8} (h : w.heap[g]? = some (.cells (S.v8 (S.roomy bs)) 5 (0, 0))) (hl : bs.length + 80 ≤ 140737488355328) (c : Nat) (hc : bs.length ≤ c) : SliceAt w (.slice (some ⟨g, 0, none⟩) bs.length c) bs :=
  Or.inr (Or.inr ⟨g, 0, c, rfl, hc, by omega, block_lt_of_row h, fun j hj => by
    rw [Nat.zero_add]
    have e := v8_cell h j (by rw [S.roomy_length]; omega)
    rw [e]
    congr 4
    simp only [S.roomy, List.getD_eq_getElem?_getD, List.getElem?_append, hj, if_true]⟩)
theorem roomy_mark {w : World} {g : Nat} {bs : List UInt8} (h : w.heap[g]? = some (.cells (S.v8 (S.roomy bs)) 5 (0, 0))) (j : Nat) (h1 : bs.length ≤ j) (h2 : j < bs.length + 80) : w.cell? ⟨g, j, none⟩ = some (.int .u8 165) := by
  have e := v8_cell h j (by rw [S.roomy_length]; omega)
  rw [e]
  have e2 : (S.roomy bs).getD j 0 = 165 := by
    simp only [S.roomy, List.getD_eq_getElem?_getD, List.getElem?_append, List.getElem?_replicate]
    rw [if_neg (by omega), if_pos (by omega)]
    rfl
  rw [e2]
  rfl
set_option maxHeartbeats 800000 in
set_option maxRecDepth 100000 in
theorem intact_any (g : Nat) (v : Value) (bs : List UInt8) (N : Nat) (w : World) (hN : N = bs.length + 80) (hv : SliceAt w v bs) (hl : bs.length + 80 ≤ 140737488355328) (hg : w.heap[g]? = some (.cells (S.v8 (S.roomy bs)) 5 (0, 0))) :
   Calls Tryd.prog 28 #[.slice (some ⟨g, 0, none⟩) N N, v, .int .u8 165] w fun e w' => e = .returned (.bool true) ∧ Still w w' := by
  obtain ⟨ao, len, cap, rfl, hlen, hmax⟩ := hv.form
  have q0 : (N : Int) = (len : Int) + 80 := by omega
  have q1 : (len : Int) ≤ (N : Int) := by omega
  have q2 : (0 : Int) ≤ (len : Int) := by omega
  have HV := hide hv
  have HL := hide hlen
  have HP : Hid (SliceAt w (.slice (some ⟨g, 0, none⟩) len N) bs) := by rw [hlen]; exact roomy_at hg hl N (by omega)
  have HG := hide hg
  have HNN : Hid (N = len + 80) := by show N = len + 80; omega
  have hNl : N ≤ 140737488355328 := by omega
  clear hv hlen hg hN hl
  go_enter Tryd.func28, Tryd.ntmps28
  go_wp2_with fail
  refine (same_any _ _ bs w HP.out HV.out).mono ?_
  rintro e w1 ⟨rfl, hst⟩
  have ST := hide hst
  clear hst
  go_wp2_with fail
  go_loopw [7] (fun i wr => ∃ k : Nat, len ≤ k ∧ k ≤ N ∧ i = .int .i64 (k : Int) ∧ Still w wr) (fun i _ => N - (intOf i).toNat)
  case atStart => exact ⟨len, Nat.le_refl _, by omega, rfl, ST.out⟩
  case round =>
    obtain ⟨k, hk1, hk2, rfl, hst⟩ := hrel
    clear q0 ST
    by_cases hlt : k < N
    · have c1 : wr.cell? ⟨g, k, none⟩ = some (.int .u8 165) := by
        rw [← roomy_mark HG.out k (by have := HL.out; omega) (by have := HL.out; have := HNN.out; omega)]
        exact World.cell?_of_block (by rw [hst.1])
      have p1 : (0 : Int) ≤ (k : Int) := by omega
      have p2 : (k : Int) < (N : Int) := by omega
      have p4 : IntKind.i64.wrap ((k : Int) + 1) = (k : Int) + 1 := by rw [IntKind.wrap_i64]; omega
      have ST := hide hst
      clear hst
      go_wp2
      go_roundw
      case rel => exact ⟨k + 1, by omega, by omega, by go_num, ST.out⟩
      case measure => simp [intOf]; omega
    · obtain rfl : N = k := by omega
      have p2 : ¬ ((N : Int) < (N : Int)) := by omega
      go_wp2
      go_ret
      exact ⟨rfl, hst⟩
end Go.Proofs.YtlcilclhaahopaaDoor
