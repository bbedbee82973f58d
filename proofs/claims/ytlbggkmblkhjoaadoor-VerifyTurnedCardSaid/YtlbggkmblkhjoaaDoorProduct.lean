/- times of the document's own answer: the product of two numbers in parts of 16 bits; nothing that was there changes. -/
import Derived.Test.YtlbggkmblkhjoaaDoorTimes
namespace Go.Proofs.YtlbggkmblkhjoaaDoor
open Go.RowKit
set_option maxHeartbeats 2000000 in
set_option maxRecDepth 100000 in
theorem times_4_4 (ga gb : Nat) (la lb : List Nat) (hla : la.length = 4) (hlb : lb.length = 4) (w : World) (hA : NumAt w ga la) (hB : NumAt w gb lb) :
   Calls Tryd.prog 77 #[.slice (some ⟨ga, 0, none⟩) 4 4, .slice (some ⟨gb, 0, none⟩) 4 4] w fun e w' => ∃ lo, e = .returned (.slice (some ⟨w.heap.size, 0, none⟩) 8 8) ∧ NumAt w' w.heap.size lo ∧ lo.length = 8 ∧ P.val lo = P.val la * P.val lb ∧ Below w.heap.size w w' := by
  have HA := hide hA
  have HB := hide hB
  have HLA := hide hla
  have HLB := hide hlb
  have hmk := make8
  clear hA hB hla hlb
  go_enter Tryd.func77, Tryd.ntmps77
  go_wp2
  go_loopw [6] (fun i wr => ∃ k : Nat, k ≤ 4 ∧ i = .int .i64 (k : Int) ∧ ∃ out, wr.heap[w.heap.size]? = some (.cells (q64 out) 28 (0, 0)) ∧ Rows_ la lb out 8 k ∧ Below w.heap.size w wr) (fun i _ => 4 - (intOf i).toNat)
  case atStart =>
    refine ⟨0, by omega, rfl, List.replicate 8 0, heap_alloc_new _ _, ⟨by simp, fun x hx => by rw [List.eq_of_mem_replicate hx]; omega, fun j _ => ?_, ?_⟩, (Below.refl _ _).alloc (Nat.le_refl _) _⟩
    · rw [List.getD_eq_getElem?_getD, List.getElem?_replicate]; split <;> rfl
    · rw [P.val_zeros, List.take_zero]; simp [P.val]
  case round =>
    obtain ⟨k, hk, rfl, out0, r0, hrows, hbl⟩ := hrel
    have BL0 := hide hbl
    have R0 := hide r0
    have RW := hide hrows
    clear hmk hbl r0 hrows
    by_cases hlt : k < 4
    · have q1 : (0 : Int) ≤ (k : Int) := by omega
      have q2 : (k : Int) < 4 := by omega
      have q4 : IntKind.i64.wrap ((k : Int) + 1) = (k : Int) + 1 := by rw [IntKind.wrap_i64]; omega
      go_wp2
      obtain ⟨wo, rfl⟩ : ∃ wo : World, wo = wr := ⟨_, rfl⟩
      go_loopw [7, 8] (fun c i wr => ∃ j cc : Nat, j ≤ 4 ∧ i = .int .i64 (j : Int) ∧ c = .int .u64 (cc : Int) ∧ ∃ out, wr.heap[w.heap.size]? = some (.cells (q64 out) 28 (0, 0)) ∧ Row_ la lb out 8 k j cc ∧ Below w.heap.size w wr) (fun _ i _ => 4 - (intOf i).toNat)
      case atStart => exact ⟨0, 0, by omega, rfl, rfl, out0, R0.out, RW.out.row, BL0.out⟩
      case round =>
        obtain ⟨j, cc, hj, rfl, rfl, out, r1, hrow, hbl1⟩ := hrel
        by_cases hjl : j < 4
        · have hA := HA.out.below hbl1
          have hB := HB.out.below hbl1
          have c1 := q64_cell r1 (k + j) (by rw [hrow.len]; omega)
          have f1 := frozen_of_row _ _ (k + j) _ _ r1
          have c2 := q64_cell hA.1 k (by rw [HLA.out]; omega)
          have c3 := q64_cell hB.1 j (by rw [HLB.out]; omega)
          have ST := hide (hrow.step (by omega) (by rw [HLB.out]; omega) (getD_lt hA.2 k) (getD_lt hB.2 j))
          have R2 := hide (q64_set r1 (k + j) ((out.getD (k + j) 0 + la.getD k 0 * lb.getD j 0 + cc) % 65536))
          have BL2 := hide hbl1
          have l1 := getD_lt hrow.lt (k + j)
          have l2 := getD_lt hA.2 k
          have l3 := getD_lt hB.2 j
          have l4 := hrow.clt
          obtain ⟨m, hm⟩ : ∃ m, m = la.getD k 0 * lb.getD j 0 := ⟨_, rfl⟩
          have lm : m ≤ 65535 * 65535 := by rw [hm]; exact Nat.mul_le_mul (by omega) (by omega)
          have q5 : IntKind.u64.wrap (((la.getD k 0 : Nat) : Int) * ((lb.getD j 0 : Nat) : Int)) = (m : Int) := by
            rw [hm, ← Int.natCast_mul, ← hm, IntKind.wrap_u64]; omega
          rw [← hm] at ST R2
          clear hm hA hB r1 hrow hbl1
          generalize out.getD (k + j) 0 = o at *
          generalize la.getD k 0 = a at *
          generalize lb.getD j 0 = b at *
          obtain ⟨n, hn⟩ : ∃ n, n = o + m + cc := ⟨_, rfl⟩
          rw [← hn] at ST R2
          have q6 : IntKind.u64.wrap ((o : Int) + (m : Int)) = (o : Int) + (m : Int) := by rw [IntKind.wrap_u64]; omega
          have q7 : IntKind.u64.wrap ((o : Int) + (m : Int) + (cc : Int)) = (n : Int) := by rw [IntKind.wrap_u64]; omega
          have q8 := and_low n (by omega)
          have q9 : ((k : Int) + (j : Int)).toNat = k + j := by omega
          have p1 : (0 : Int) ≤ (k : Int) + (j : Int) := by omega
          have p2 : (k : Int) + (j : Int) < 8 := by omega
          have p3 : (0 : Int) ≤ (j : Int) := by omega
          have p4 : (j : Int) < 4 := by omega
          have p5 : IntKind.i64.wrap ((j : Int) + 1) = (j : Int) + 1 := by rw [IntKind.wrap_i64]; omega
          have p6 : IntKind.i64.wrap ((k : Int) + (j : Int)) = (k : Int) + (j : Int) := by rw [IntKind.wrap_i64]; omega
          have hn0 : n < 18446744073709551616 := by omega
          clear l1 l2 l3 l4 lm hn
          go_wp2
          go_quiet (fail)
          go_wp2
          have e9 : ((n : Int) % 65536) = ((n % 65536 : Nat) : Int) := by omega
          have hbq : Below w.heap.size w (wr.drewN nq) := ⟨BL2.out.os, BL2.out.tape, BL2.out.output, BL2.out.size, BL2.out.block⟩
          refine ⟨⟨j + 1, n / 65536, by omega, by simp, by simp, out.set (k + j) (n % 65536), ?_, ST.out, hbq.setCell (Nat.le_refl _) _⟩, by simp [intOf]; omega⟩
          rw [e9]
          exact R2.out
        · obtain rfl : 4 = j := by omega
          have c1 := q64_cell r1 (k + 4) (by rw [hrow.len]; omega)
          have f1 := frozen_of_row _ _ (k + 4) _ _ r1
          have hrow' : Row_ la lb out 8 k lb.length cc := by rw [HLB.out]; exact hrow
          have ST := hide (hrow'.done (by rw [HLB.out]; omega) (by rw [HLA.out]; omega))
          rw [HLB.out] at ST
          have R2 := hide (q64_set r1 (k + 4) (out.getD (k + 4) 0 + cc))
          have BL2 := hide hbl1
          have l1 := getD_lt hrow.lt (k + 4)
          have l4 := hrow.clt
          clear r1 hrow hrow' hbl1 R0 RW BL0
          generalize out.getD (k + 4) 0 = o at *
          have q6 : IntKind.u64.wrap ((o : Int) + (cc : Int)) = (o : Int) + (cc : Int) := by rw [IntKind.wrap_u64]; omega
          have q9 : ((k : Int) + 4).toNat = k + 4 := by omega
          have p1 : (0 : Int) ≤ (k : Int) + 4 := by omega
          have p2 : (k : Int) + 4 < 8 := by omega
          have p6 : IntKind.i64.wrap ((k : Int) + 4) = (k : Int) + 4 := by rw [IntKind.wrap_i64]; omega
          go_wp2
          go_roundw
          case rel => exact ⟨k + 1, by omega, by go_num, _, R2.out, ST.out, BL2.out.setCell (Nat.le_refl _) _⟩
          case measure => simp [intOf]; omega
    · obtain rfl : 4 = k := by omega
      go_wp2
      go_ret
      refine ⟨out0, rfl, ⟨R0.out, RW.out.lt⟩, RW.out.len, ?_, BL0.out⟩
      rw [RW.out.val, List.take_of_length_le (by rw [HLA.out]; omega)]
set_option maxHeartbeats 2000000 in
set_option maxRecDepth 100000 in
theorem times_8_4 (ga gb : Nat) (la lb : List Nat) (hla : la.length = 8) (hlb : lb.length = 4) (w : World) (hA : NumAt w ga la) (hB : NumAt w gb lb) :
   Calls Tryd.prog 77 #[.slice (some ⟨ga, 0, none⟩) 8 8, .slice (some ⟨gb, 0, none⟩) 4 4] w fun e w' => ∃ lo, e = .returned (.slice (some ⟨w.heap.size, 0, none⟩) 12 12) ∧ NumAt w' w.heap.size lo ∧ lo.length = 12 ∧ P.val lo = P.val la * P.val lb ∧ Below w.heap.size w w' := by
  have HA := hide hA
  have HB := hide hB
  have HLA := hide hla
  have HLB := hide hlb
  have hmk := make12
  clear hA hB hla hlb
  go_enter Tryd.func77, Tryd.ntmps77
  go_wp2
  go_loopw [6] (fun i wr => ∃ k : Nat, k ≤ 8 ∧ i = .int .i64 (k : Int) ∧ ∃ out, wr.heap[w.heap.size]? = some (.cells (q64 out) 28 (0, 0)) ∧ Rows_ la lb out 12 k ∧ Below w.heap.size w wr) (fun i _ => 8 - (intOf i).toNat)
  case atStart =>
    refine ⟨0, by omega, rfl, List.replicate 12 0, heap_alloc_new _ _, ⟨by simp, fun x hx => by rw [List.eq_of_mem_replicate hx]; omega, fun j _ => ?_, ?_⟩, (Below.refl _ _).alloc (Nat.le_refl _) _⟩
    · rw [List.getD_eq_getElem?_getD, List.getElem?_replicate]; split <;> rfl
    · rw [P.val_zeros, List.take_zero]; simp [P.val]
  case round =>
    obtain ⟨k, hk, rfl, out0, r0, hrows, hbl⟩ := hrel
    have BL0 := hide hbl
    have R0 := hide r0
    have RW := hide hrows
    clear hmk hbl r0 hrows
    by_cases hlt : k < 8
    · have q1 : (0 : Int) ≤ (k : Int) := by omega
      have q2 : (k : Int) < 8 := by omega
      have q4 : IntKind.i64.wrap ((k : Int) + 1) = (k : Int) + 1 := by rw [IntKind.wrap_i64]; omega
      go_wp2
      obtain ⟨wo, rfl⟩ : ∃ wo : World, wo = wr := ⟨_, rfl⟩
      go_loopw [7, 8] (fun c i wr => ∃ j cc : Nat, j ≤ 4 ∧ i = .int .i64 (j : Int) ∧ c = .int .u64 (cc : Int) ∧ ∃ out, wr.heap[w.heap.size]? = some (.cells (q64 out) 28 (0, 0)) ∧ Row_ la lb out 12 k j cc ∧ Below w.heap.size w wr) (fun _ i _ => 4 - (intOf i).toNat)
      case atStart => exact ⟨0, 0, by omega, rfl, rfl, out0, R0.out, RW.out.row, BL0.out⟩
      case round =>
        obtain ⟨j, cc, hj, rfl, rfl, out, r1, hrow, hbl1⟩ := hrel
        by_cases hjl : j < 4
        · have hA := HA.out.below hbl1
          have hB := HB.out.below hbl1
          have c1 := q64_cell r1 (k + j) (by rw [hrow.len]; omega)
          have f1 := frozen_of_row _ _ (k + j) _ _ r1
          have c2 := q64_cell hA.1 k (by rw [HLA.out]; omega)
          have c3 := q64_cell hB.1 j (by rw [HLB.out]; omega)
          have ST := hide (hrow.step (by omega) (by rw [HLB.out]; omega) (getD_lt hA.2 k) (getD_lt hB.2 j))
          have R2 := hide (q64_set r1 (k + j) ((out.getD (k + j) 0 + la.getD k 0 * lb.getD j 0 + cc) % 65536))
          have BL2 := hide hbl1
          have l1 := getD_lt hrow.lt (k + j)
          have l2 := getD_lt hA.2 k
          have l3 := getD_lt hB.2 j
          have l4 := hrow.clt
          obtain ⟨m, hm⟩ : ∃ m, m = la.getD k 0 * lb.getD j 0 := ⟨_, rfl⟩
          have lm : m ≤ 65535 * 65535 := by rw [hm]; exact Nat.mul_le_mul (by omega) (by omega)
          have q5 : IntKind.u64.wrap (((la.getD k 0 : Nat) : Int) * ((lb.getD j 0 : Nat) : Int)) = (m : Int) := by
            rw [hm, ← Int.natCast_mul, ← hm, IntKind.wrap_u64]; omega
          rw [← hm] at ST R2
          clear hm hA hB r1 hrow hbl1
          generalize out.getD (k + j) 0 = o at *
          generalize la.getD k 0 = a at *
          generalize lb.getD j 0 = b at *
          obtain ⟨n, hn⟩ : ∃ n, n = o + m + cc := ⟨_, rfl⟩
          rw [← hn] at ST R2
          have q6 : IntKind.u64.wrap ((o : Int) + (m : Int)) = (o : Int) + (m : Int) := by rw [IntKind.wrap_u64]; omega
          have q7 : IntKind.u64.wrap ((o : Int) + (m : Int) + (cc : Int)) = (n : Int) := by rw [IntKind.wrap_u64]; omega
          have q8 := and_low n (by omega)
          have q9 : ((k : Int) + (j : Int)).toNat = k + j := by omega
          have p1 : (0 : Int) ≤ (k : Int) + (j : Int) := by omega
          have p2 : (k : Int) + (j : Int) < 12 := by omega
          have p3 : (0 : Int) ≤ (j : Int) := by omega
          have p4 : (j : Int) < 4 := by omega
          have p5 : IntKind.i64.wrap ((j : Int) + 1) = (j : Int) + 1 := by rw [IntKind.wrap_i64]; omega
          have p6 : IntKind.i64.wrap ((k : Int) + (j : Int)) = (k : Int) + (j : Int) := by rw [IntKind.wrap_i64]; omega
          have hn0 : n < 18446744073709551616 := by omega
          clear l1 l2 l3 l4 lm hn
          go_wp2
          go_quiet (fail)
          go_wp2
          have e9 : ((n : Int) % 65536) = ((n % 65536 : Nat) : Int) := by omega
          have hbq : Below w.heap.size w (wr.drewN nq) := ⟨BL2.out.os, BL2.out.tape, BL2.out.output, BL2.out.size, BL2.out.block⟩
          refine ⟨⟨j + 1, n / 65536, by omega, by simp, by simp, out.set (k + j) (n % 65536), ?_, ST.out, hbq.setCell (Nat.le_refl _) _⟩, by simp [intOf]; omega⟩
          rw [e9]
          exact R2.out
        · obtain rfl : 4 = j := by omega
          have c1 := q64_cell r1 (k + 4) (by rw [hrow.len]; omega)
          have f1 := frozen_of_row _ _ (k + 4) _ _ r1
          have hrow' : Row_ la lb out 12 k lb.length cc := by rw [HLB.out]; exact hrow
          have ST := hide (hrow'.done (by rw [HLB.out]; omega) (by rw [HLA.out]; omega))
          rw [HLB.out] at ST
          have R2 := hide (q64_set r1 (k + 4) (out.getD (k + 4) 0 + cc))
          have BL2 := hide hbl1
          have l1 := getD_lt hrow.lt (k + 4)
          have l4 := hrow.clt
          clear r1 hrow hrow' hbl1 R0 RW BL0
          generalize out.getD (k + 4) 0 = o at *
          have q6 : IntKind.u64.wrap ((o : Int) + (cc : Int)) = (o : Int) + (cc : Int) := by rw [IntKind.wrap_u64]; omega
          have q9 : ((k : Int) + 4).toNat = k + 4 := by omega
          have p1 : (0 : Int) ≤ (k : Int) + 4 := by omega
          have p2 : (k : Int) + 4 < 12 := by omega
          have p6 : IntKind.i64.wrap ((k : Int) + 4) = (k : Int) + 4 := by rw [IntKind.wrap_i64]; omega
          go_wp2
          go_roundw
          case rel => exact ⟨k + 1, by omega, by go_num, _, R2.out, ST.out, BL2.out.setCell (Nat.le_refl _) _⟩
          case measure => simp [intOf]; omega
    · obtain rfl : 8 = k := by omega
      go_wp2
      go_ret
      refine ⟨out0, rfl, ⟨R0.out, RW.out.lt⟩, RW.out.len, ?_, BL0.out⟩
      rw [RW.out.val, List.take_of_length_le (by rw [HLA.out]; omega)]
end Go.Proofs.YtlbggkmblkhjoaaDoor
