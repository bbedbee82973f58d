/- digestOf: the 32 bytes of a state are the Lean function's, and nothing that was there changes. -/
import Derived.Test.YtlcilclhaahopaaDoorBlocks
namespace Go.Proofs.YtlcilclhaahopaaDoor
open Go.RowKit
namespace S
def dig (st : List UInt32) : Nat → List UInt8
  | 0 => List.replicate 32 0
  | k + 1 => ((((dig st k).set (4 * k) (st.getD k 0 >>> 24).toUInt8).set (4 * k + 1) (st.getD k 0 >>> 16).toUInt8).set (4 * k + 2) (st.getD k 0 >>> 8).toUInt8).set (4 * k + 3) (st.getD k 0).toUInt8
theorem dig_length (st : List UInt32) (k : Nat) : (dig st k).length = 32 := by
  induction k with
  | zero => rfl
  | succ k ih => simp [dig, ih]
end S
theorem index_at0 (s0 s1 s2 s3 s4 s5 s6 s7 : UInt32) (w : World) : (Instr.index 101 (.agg (S.v32 [s0, s1, s2, s3, s4, s5, s6, s7])) (.int .i64 ((0 : Nat) : Int))).run Tryd.prog w = .ok (.int .u32 (s0.toNat : Int)) w := by kernel_rfl
theorem index_at1 (s0 s1 s2 s3 s4 s5 s6 s7 : UInt32) (w : World) : (Instr.index 101 (.agg (S.v32 [s0, s1, s2, s3, s4, s5, s6, s7])) (.int .i64 ((1 : Nat) : Int))).run Tryd.prog w = .ok (.int .u32 (s1.toNat : Int)) w := by kernel_rfl
theorem index_at2 (s0 s1 s2 s3 s4 s5 s6 s7 : UInt32) (w : World) : (Instr.index 101 (.agg (S.v32 [s0, s1, s2, s3, s4, s5, s6, s7])) (.int .i64 ((2 : Nat) : Int))).run Tryd.prog w = .ok (.int .u32 (s2.toNat : Int)) w := by kernel_rfl
theorem index_at3 (s0 s1 s2 s3 s4 s5 s6 s7 : UInt32) (w : World) : (Instr.index 101 (.agg (S.v32 [s0, s1, s2, s3, s4, s5, s6, s7])) (.int .i64 ((3 : Nat) : Int))).run Tryd.prog w = .ok (.int .u32 (s3.toNat : Int)) w := by kernel_rfl
theorem index_at4 (s0 s1 s2 s3 s4 s5 s6 s7 : UInt32) (w : World) : (Instr.index 101 (.agg (S.v32 [s0, s1, s2, s3, s4, s5, s6, s7])) (.int .i64 ((4 : Nat) : Int))).run Tryd.prog w = .ok (.int .u32 (s4.toNat : Int)) w := by kernel_rfl
theorem index_at5 (s0 s1 s2 s3 s4 s5 s6 s7 : UInt32) (w : World) : (Instr.index 101 (.agg (S.v32 [s0, s1, s2, s3, s4, s5, s6, s7])) (.int .i64 ((5 : Nat) : Int))).run Tryd.prog w = .ok (.int .u32 (s5.toNat : Int)) w := by kernel_rfl
theorem index_at6 (s0 s1 s2 s3 s4 s5 s6 s7 : UInt32) (w : World) : (Instr.index 101 (.agg (S.v32 [s0, s1, s2, s3, s4, s5, s6, s7])) (.int .i64 ((6 : Nat) : Int))).run Tryd.prog w = .ok (.int .u32 (s6.toNat : Int)) w := by kernel_rfl
theorem index_at7 (s0 s1 s2 s3 s4 s5 s6 s7 : UInt32) (w : World) : (Instr.index 101 (.agg (S.v32 [s0, s1, s2, s3, s4, s5, s6, s7])) (.int .i64 ((7 : Nat) : Int))).run Tryd.prog w = .ok (.int .u32 (s7.toNat : Int)) w := by kernel_rfl
theorem index_v32 (st : List UInt32) (hst : st.length = 8) (k : Nat) (hk : k < 8) (w : World) : (Instr.index 101 (.agg (S.v32 st)) (.int .i64 (k : Int))).run Tryd.prog w = .ok (.int .u32 ((st.getD k 0).toNat : Int)) w := by
  match st, hst with
  | [s0, s1, s2, s3, s4, s5, s6, s7], _ =>
    rcases (by omega : k = 0 ∨ k = 1 ∨ k = 2 ∨ k = 3 ∨ k = 4 ∨ k = 5 ∨ k = 6 ∨ k = 7) with rfl | rfl | rfl | rfl | rfl | rfl | rfl | rfl
    · exact index_at0 s0 s1 s2 s3 s4 s5 s6 s7 w
    · exact index_at1 s0 s1 s2 s3 s4 s5 s6 s7 w
    · exact index_at2 s0 s1 s2 s3 s4 s5 s6 s7 w
    · exact index_at3 s0 s1 s2 s3 s4 s5 s6 s7 w
    · exact index_at4 s0 s1 s2 s3 s4 s5 s6 s7 w
    · exact index_at5 s0 s1 s2 s3 s4 s5 s6 s7 w
    · exact index_at6 s0 s1 s2 s3 s4 s5 s6 s7 w
    · exact index_at7 s0 s1 s2 s3 s4 s5 s6 s7 w
theorem heap_alloc3_new (w : World) (A B C : Obj) : (((w.alloc A).alloc B).alloc C).heap[w.heap.size + 1 + 1]? = some C := by
  have := heap_alloc2_new (w.alloc A) B C
  have e : (w.alloc A).heap.size = w.heap.size + 1 := by show (w.heap.push A).size = _; simp
  rwa [e] at this
theorem u8_cast (x : UInt32) : (x.toNat : Int) % (256 : Int) = ((x.toUInt8).toNat : Int) := by
  rw [UInt32.toNat_toUInt8]; omega
set_option maxHeartbeats 800000 in
set_option maxRecDepth 100000 in
theorem digestOf_any (st : List UInt32) (hst : st.length = 8) (w : World) :
   Calls Tryd.prog 84 #[.agg (S.v32 st)] w fun e w' => e = .returned (.agg (S.v8 (S.dig st 8))) ∧ Below w.heap.size w w' := by
  have hs49 : Hid ((Tryd.prog.info? 101).map (·.size) = some (S.v32 st).size) := by rw [S.v32_size, hst]; exact size49
  have G0 : Hid ((((w.alloc (.cells (S.v32 st) 101)).alloc (.cells (S.v8 (List.replicate 32 0)) 25)).alloc (.cells (S.v8 (List.replicate 32 0)) 25)).heap[w.heap.size]? = some (.cells (S.v32 st) 101 (0, 0))) := by
    exact (heap_alloc_old _ _ (by simp; omega)).trans (heap_alloc2_old _ _ _)
  have G1 : Hid ((((w.alloc (.cells (S.v32 st) 101)).alloc (.cells (S.v8 (List.replicate 32 0)) 25)).alloc (.cells (S.v8 (List.replicate 32 0)) 25)).heap[w.heap.size + 1]? = some (.cells (S.v8 (List.replicate 32 0)) 25 (0, 0))) := by
    exact (heap_alloc_old _ _ (by simp)).trans (heap_alloc2_new _ _ _)
  have HI := hide hst
  go_enter Tryd.func84, Tryd.ntmps84
  go_wp2_with (refine wpList_load_row rfl 101 _ rfl w.heap.size rfl 101 _ _ _ G0.out Tryd.underlying101 rfl hs49.out ?_)
  go_loopw [7] (fun i wr => ∃ k : Nat, k ≤ 8 ∧ i = .int .i64 (k : Int) ∧ wr.heap[w.heap.size + 1 + 1]? = some (.cells (S.v8 (S.dig st k)) 25 (0, 0)) ∧ wr.heap[w.heap.size + 1]? = some (.cells (S.v8 (List.replicate 32 0)) 25 (0, 0)) ∧ Below w.heap.size w wr)
    (fun i _ => 8 - (intOf i).toNat)
  case atStart => exact ⟨0, by omega, rfl, heap_alloc3_new _ _ _ _, G1.out, (((Below.refl _ _).alloc (Nat.le_refl _) _).alloc (by simp) _).alloc (by simp; omega) _⟩
  case round =>
    obtain ⟨k, hk, rfl, r2, r1, hnx⟩ := hrel
    by_cases hlt : k < 8
    · have hl := S.dig_length st k
      have hidx := fun w => index_v32 st HI.out k hlt w
      obtain ⟨x, hx⟩ : ∃ x : UInt32, x = st.getD k 0 := ⟨_, rfl⟩
      rw [← hx] at hidx
      have q1 : (0 : Int) ≤ (k : Int) := by omega
      have q2 : (k : Int) < 8 := by omega
      have e0 : IntKind.i64.wrap (4 * (k : Int)) = 4 * (k : Int) := by rw [IntKind.wrap_i64]; omega
      have f0 : (0 : Int) ≤ 4 * (k : Int) := by omega
      have g0 : 4 * (k : Int) < 32 := by omega
      have n0 : (4 * (k : Int)).toNat = 4 * k := by omega
      have c0 : wr.cell? ⟨w.heap.size + 1 + 1, 4 * k, none⟩ = some (.int .u8 (((S.dig st k).getD (4 * k) 0).toNat : Int)) := v8_cell r2 _ (by omega)
      have d0 : wr.frozen? ⟨w.heap.size + 1 + 1, 4 * k, none⟩ = false := frozen_of_row _ _ _ _ _ r2
      have e1 : IntKind.i64.wrap (4 * (k : Int) + 1) = 4 * (k : Int) + 1 := by rw [IntKind.wrap_i64]; omega
      have f1 : (0 : Int) ≤ 4 * (k : Int) + 1 := by omega
      have g1 : 4 * (k : Int) + 1 < 32 := by omega
      have n1 : (4 * (k : Int) + 1).toNat = 4 * k + 1 := by omega
      have c1 : wr.cell? ⟨w.heap.size + 1 + 1, 4 * k + 1, none⟩ = some (.int .u8 (((S.dig st k).getD (4 * k + 1) 0).toNat : Int)) := v8_cell r2 _ (by omega)
      have d1 : wr.frozen? ⟨w.heap.size + 1 + 1, 4 * k + 1, none⟩ = false := frozen_of_row _ _ _ _ _ r2
      have e2 : IntKind.i64.wrap (4 * (k : Int) + 2) = 4 * (k : Int) + 2 := by rw [IntKind.wrap_i64]; omega
      have f2 : (0 : Int) ≤ 4 * (k : Int) + 2 := by omega
      have g2 : 4 * (k : Int) + 2 < 32 := by omega
      have n2 : (4 * (k : Int) + 2).toNat = 4 * k + 2 := by omega
      have c2 : wr.cell? ⟨w.heap.size + 1 + 1, 4 * k + 2, none⟩ = some (.int .u8 (((S.dig st k).getD (4 * k + 2) 0).toNat : Int)) := v8_cell r2 _ (by omega)
      have d2 : wr.frozen? ⟨w.heap.size + 1 + 1, 4 * k + 2, none⟩ = false := frozen_of_row _ _ _ _ _ r2
      have e3 : IntKind.i64.wrap (4 * (k : Int) + 3) = 4 * (k : Int) + 3 := by rw [IntKind.wrap_i64]; omega
      have f3 : (0 : Int) ≤ 4 * (k : Int) + 3 := by omega
      have g3 : 4 * (k : Int) + 3 < 32 := by omega
      have n3 : (4 * (k : Int) + 3).toNat = 4 * k + 3 := by omega
      have c3 : wr.cell? ⟨w.heap.size + 1 + 1, 4 * k + 3, none⟩ = some (.int .u8 (((S.dig st k).getD (4 * k + 3) 0).toNat : Int)) := v8_cell r2 _ (by omega)
      have d3 : wr.frozen? ⟨w.heap.size + 1 + 1, 4 * k + 3, none⟩ = false := frozen_of_row _ _ _ _ _ r2
      have R2 : ((((wr.setCell ⟨w.heap.size + 1 + 1, 4 * k, none⟩ (.int .u8 ((x >>> 24).toUInt8.toNat : Int))).setCell ⟨w.heap.size + 1 + 1, 4 * k + 1, none⟩ (.int .u8 ((x >>> 16).toUInt8.toNat : Int))).setCell ⟨w.heap.size + 1 + 1, 4 * k + 2, none⟩ (.int .u8 ((x >>> 8).toUInt8.toNat : Int))).setCell ⟨w.heap.size + 1 + 1, 4 * k + 3, none⟩ (.int .u8 (x.toUInt8.toNat : Int))).heap[w.heap.size + 1 + 1]? = some (.cells (S.v8 (S.dig st (k + 1))) 25 (0, 0)) := by
        rw [hx]; exact v8_set (v8_set (v8_set (v8_set r2 _ _) _ _) _ _) _ _
      have HR2 := hide R2
      have HR1 := hide r1
      have HN := hide hnx
      clear R2 r2 r1 hnx hx hl
      go_wp2
      go_roundw
      case rel =>
        simp only [shr_24, shr_16, shr_8, u8_cast]
        exact ⟨k + 1, by omega, by go_num, HR2.out, (heap_setCell_other _ _ _ _ (by simp)).trans ((heap_setCell_other _ _ _ _ (by simp)).trans ((heap_setCell_other _ _ _ _ (by simp)).trans ((heap_setCell_other _ _ _ _ (by simp)).trans HR1.out))), (((HN.out.setCell (by simp; omega) _).setCell (by simp; omega) _).setCell (by simp; omega) _).setCell (by simp; omega) _⟩
      case measure => simp [intOf]; omega
    · obtain rfl : k = 8 := by omega
      have hs : (Tryd.prog.info? 25).map (·.size) = some (S.v8 (S.dig st 8)).size := by rw [S.v8_size, S.dig_length]; exact size23
      have ho : (S.v8 (List.replicate 32 0)).size = (S.v8 (S.dig st 8)).size := by rw [S.v8_size, S.v8_size, S.dig_length]; rfl
      have HR2 := hide r2
      have HR1 := hide r1
      have HN := hide hnx
      have J3 := hide ho
      have J4 := hide hs
      clear r2 r1 hnx ho hs
      go_wp2_with (first | refine wpList_load_row rfl 25 _ rfl (w.heap.size + 1 + 1) rfl 25 _ _ _ HR2.out Tryd.underlying25 rfl J4.out ?_ | refine wpList_store_row rfl 25 _ _ rfl (w.heap.size + 1) (S.v8 (S.dig st 8)) rfl rfl 25 _ HR1.out J4.out J3.out (S.v8_one _) ?_)
      refine bodyPost_ret (v := .agg (S.v8 (S.dig st 8))) (results_cell_row (g := w.heap.size + 1) (t := 25) (fr := (0, 0)) Tryd.results84 _ _ _ _ rfl (setRow_heap _ _ _ _ _ _ HR1.out) Tryd.underlying25 rfl J4.out) rfl ⟨rfl, below_setRow HN.out (by omega) _⟩
end Go.Proofs.YtlcilclhaahopaaDoor
namespace Go.Proofs.YtlcilclhaahopaaDoor
open Go.RowKit
namespace S
def putLen (l : List UInt8) (n c : Nat) : Nat → List UInt8
  | 0 => l
  | j + 1 => (putLen l n c j).set (n - 1 - j) (UInt8.ofNat (c / 256 ^ j))
theorem putLen_length (l : List UInt8) (n c j : Nat) : (putLen l n c j).length = l.length := by
  induction j with
  | zero => rfl
  | succ j ih => simp [putLen, ih]
def ended (n : Nat) (bs : List UInt8) (c : Nat) : List UInt8 := putLen ((splice (zeros n) 0 bs).set bs.length 128) n c 8
def ending (bs : List UInt8) (c : Nat) : List UInt8 := if bs.length + 9 ≤ 64 then ended 64 bs c else ended 128 bs c
theorem ended_length (n : Nat) (bs : List UInt8) (c : Nat) (h : bs.length ≤ n) : (ended n bs c).length = n := by
  rw [ended, putLen_length, List.length_set, length_splice _ _ _ (by simpa [zeros_length] using h), zeros_length]
end S
theorem make64 (w : World) : (Instr.makeSlice 30 (.int .i64 64) (.int .i64 64)).run Tryd.prog w = .ok (.slice (some ⟨w.heap.size, 0, none⟩) 64 64) (w.alloc (.cells (S.v8 (S.zeros 64)) 5)) := by kernel_rfl
set_option maxHeartbeats 800000 in
set_option maxRecDepth 100000 in
theorem ending64 (bs : List UInt8) (hl : bs.length < 64) (hs : bs.length + 9 ≤ 64) (ao : Option Addr) (len cap L : Nat) (hlen : len = bs.length) (hL : 8 * L < 18446744073709551616) (w : World) (hsrc : Src w ao bs) :
   Calls Tryd.prog 83 #[.slice ao len cap, .int .u64 (L : Int)] w fun e w' => e = .returned (.slice (some ⟨w.heap.size, 0, none⟩) 64 64) ∧ w'.heap[w.heap.size]? = some (.cells (S.v8 (S.ended 64 bs (8 * L))) 5 (0, 0)) ∧ Below w.heap.size w w' := by
  have hmk := make64
  have q1 : (len : Int) < 64 := by omega
  have q2 : (len : Int) + 1 + 8 ≤ 64 := by omega
  have hcell : Hid (∀ j v, (S.v8l bs)[j]? = some v → 0 < (S.v8l bs).length) := fun j v h => by have := (List.getElem?_eq_some_iff.1 h).1; omega
  have HS := hide hsrc
  obtain ⟨c, hc⟩ : ∃ c : Nat, c = 8 * L := ⟨_, rfl⟩
  have hw : IntKind.u64.wrap (8 * (L : Int)) = (c : Int) := by have := wrap_u64_lt c (by omega); rw [← this, hc]; simp
  have HC := hide hc
  have HL := hide hlen
  have HN : Hid ((S.v8l bs).length = Nat.min len 64) := by show (S.v8l bs).length = Nat.min len 64; rw [S.v8l_length, hlen]; show _ = min _ _; omega
  have HF : Hid (0 + (S.v8l bs).length ≤ (S.v8l (S.zeros 64)).length) := by show 0 + (S.v8l bs).length ≤ (S.v8l (S.zeros 64)).length; rw [S.v8l_length, S.v8l_length, S.zeros_length]; omega
  clear hsrc hL hlen hc hcell
  go_enter Tryd.func83, Tryd.ntmps83
  go_wp2_with (refine wpList_copy_splice rfl (.tmp 16) (.tmp 17) 30 30 rfl 5 Tryd.underlying30 size5 _ _ _ _ _ _ rfl rfl w.heap.size 0 (S.v8l (S.zeros 64)) 5 (heap_alloc_new _ _) (S.v8l bs) HN.out (copy_src _ HS.out ((Below.refl _ _).alloc (Nat.le_refl _) _)) HF.out (S.v8l_one _) w.heap.size w ((Below.refl _ _).alloc (Nat.le_refl _) _) (Nat.le_refl _) ?_; intro w2 HG2 hB2; have HG3 := spl_row HG2; clear HG2; have ce := v8_cell HG3.out len (by have := HL.out; rw [length_splice _ _ _ (by rw [S.zeros_length]; omega), S.zeros_length]; omega); have cf := frozen_of_row _ _ len _ _ HG3.out)
  clear ce cf
  have hlen := HL.out
  have hrow := v8_set HG3.out len 128
  have hnx := hB2.setCell (p := ⟨w.heap.size, len, none⟩) (Nat.le_refl _) (.int .u8 ((128 : UInt8).toNat : Int))
  rw [hlen] at hrow
  obtain ⟨l0, hl0⟩ : ∃ l0 : List UInt8, l0 = (splice (S.zeros 64) 0 bs).set bs.length 128 := ⟨_, rfl⟩
  have hll : l0.length = 64 := by rw [hl0, List.length_set, length_splice _ _ _ (by rw [S.zeros_length]; omega), S.zeros_length]
  have HL0 := hide hl0
  rw [← hl0, ← hlen] at hrow
  have hend : S.ended 64 bs (8 * L) = S.putLen l0 64 c 8 := by rw [HC.out, hl0]; rfl
  have HE := hide hend
  clear hl0 hend hlen HN HF HS
  go_loopw [7, 8] (fun ct i wr => ∃ j p : Nat, p + j + 1 = 64 ∧ j ≤ 8 ∧ i = .int .i64 (p : Int) ∧ ct = .int .u64 ((c / 256 ^ j : Nat) : Int) ∧ wr.heap[w.heap.size]? = some (.cells (S.v8 (S.putLen l0 64 c j)) 5 (0, 0)) ∧ Below w.heap.size w wr)
    (fun _ i _ => (intOf i).toNat)
  case atStart => exact ⟨0, 64 - 1, by omega, by omega, rfl, by simp, hrow, hnx⟩
  case round =>
    obtain ⟨j, p, hjp, hj, rfl, rfl, r0, hnx⟩ := hrel
    by_cases hlt : j < 8
    · obtain ⟨x, hx⟩ : ∃ x : Nat, x = c / 256 ^ j := ⟨_, rfl⟩
      have hx2 : x / 256 = c / 256 ^ (j + 1) := by rw [hx, Nat.div_div_eq_div_mul, Nat.pow_succ]
      have R1 := v8_set r0 p (UInt8.ofNat x)
      have hset : (S.putLen l0 64 c j).set p (UInt8.ofNat x) = S.putLen l0 64 c (j + 1) := by
        rw [hx]; show _ = (S.putLen l0 64 c j).set (64 - 1 - j) _; rw [show 64 - 1 - j = p from by omega]
      rw [hset] at R1
      have ce := v8_cell r0 p (by rw [S.putLen_length, hll]; omega)
      have cf := frozen_of_row _ _ p _ _ r0
      have HR := hide R1
      have HX := hide hx2
      have HN := hide hnx
      rw [← hx]
      have q1 : (0 : Int) ≤ (p : Int) := by omega
      have q2 : (p : Int) < 64 := by omega
      have q3 : (64 - 8 : Int) ≤ (p : Int) := by omega
      clear R1 hset r0 hx2 hnx hx hrow
      go_wp2
      go_roundw
      case rel =>
        rw [byte_cast]
        refine ⟨j + 1, p - 1, by omega, by omega, by go_num, ?_, HR.out, HN.out.setCell (Nat.le_refl _) _⟩
        rw [← HX.out]; simp
      case measure => simp [intOf]; omega
    · obtain rfl : j = 8 := by omega
      obtain rfl : p = 64 - 9 := by omega
      have HR := hide r0
      have HN := hide hnx
      clear r0 hnx hrow
      go_wp2
      go_ret
      exact ⟨rfl, by rw [HE.out]; exact HR.out, HN.out⟩
theorem make128 (w : World) : (Instr.makeSlice 30 (.int .i64 128) (.int .i64 128)).run Tryd.prog w = .ok (.slice (some ⟨w.heap.size, 0, none⟩) 128 128) (w.alloc (.cells (S.v8 (S.zeros 128)) 5)) := by kernel_rfl
set_option maxHeartbeats 800000 in
set_option maxRecDepth 100000 in
theorem ending128 (bs : List UInt8) (hl : bs.length < 64) (hs : 64 < bs.length + 9) (ao : Option Addr) (len cap L : Nat) (hlen : len = bs.length) (hL : 8 * L < 18446744073709551616) (w : World) (hsrc : Src w ao bs) :
   Calls Tryd.prog 83 #[.slice ao len cap, .int .u64 (L : Int)] w fun e w' => e = .returned (.slice (some ⟨w.heap.size, 0, none⟩) 128 128) ∧ w'.heap[w.heap.size]? = some (.cells (S.v8 (S.ended 128 bs (8 * L))) 5 (0, 0)) ∧ Below w.heap.size w w' := by
  have hmk := make128
  have q1 : (len : Int) < 64 := by omega
  have q2 : (64 : Int) < (len : Int) + 1 + 8 := by omega
  have hcell : Hid (∀ j v, (S.v8l bs)[j]? = some v → 0 < (S.v8l bs).length) := fun j v h => by have := (List.getElem?_eq_some_iff.1 h).1; omega
  have HS := hide hsrc
  obtain ⟨c, hc⟩ : ∃ c : Nat, c = 8 * L := ⟨_, rfl⟩
  have hw : IntKind.u64.wrap (8 * (L : Int)) = (c : Int) := by have := wrap_u64_lt c (by omega); rw [← this, hc]; simp
  have HC := hide hc
  have HL := hide hlen
  have HN : Hid ((S.v8l bs).length = Nat.min len 128) := by show (S.v8l bs).length = Nat.min len 128; rw [S.v8l_length, hlen]; show _ = min _ _; omega
  have HF : Hid (0 + (S.v8l bs).length ≤ (S.v8l (S.zeros 128)).length) := by show 0 + (S.v8l bs).length ≤ (S.v8l (S.zeros 128)).length; rw [S.v8l_length, S.v8l_length, S.zeros_length]; omega
  clear hsrc hL hlen hc hcell
  go_enter Tryd.func83, Tryd.ntmps83
  go_wp2_with (refine wpList_copy_splice rfl (.tmp 16) (.tmp 17) 30 30 rfl 5 Tryd.underlying30 size5 _ _ _ _ _ _ rfl rfl w.heap.size 0 (S.v8l (S.zeros 128)) 5 (heap_alloc_new _ _) (S.v8l bs) HN.out (copy_src _ HS.out ((Below.refl _ _).alloc (Nat.le_refl _) _)) HF.out (S.v8l_one _) w.heap.size w ((Below.refl _ _).alloc (Nat.le_refl _) _) (Nat.le_refl _) ?_; intro w2 HG2 hB2; have HG3 := spl_row HG2; clear HG2; have ce := v8_cell HG3.out len (by have := HL.out; rw [length_splice _ _ _ (by rw [S.zeros_length]; omega), S.zeros_length]; omega); have cf := frozen_of_row _ _ len _ _ HG3.out)
  clear ce cf
  have hlen := HL.out
  have hrow := v8_set HG3.out len 128
  have hnx := hB2.setCell (p := ⟨w.heap.size, len, none⟩) (Nat.le_refl _) (.int .u8 ((128 : UInt8).toNat : Int))
  rw [hlen] at hrow
  obtain ⟨l0, hl0⟩ : ∃ l0 : List UInt8, l0 = (splice (S.zeros 128) 0 bs).set bs.length 128 := ⟨_, rfl⟩
  have hll : l0.length = 128 := by rw [hl0, List.length_set, length_splice _ _ _ (by rw [S.zeros_length]; omega), S.zeros_length]
  have HL0 := hide hl0
  rw [← hl0, ← hlen] at hrow
  have hend : S.ended 128 bs (8 * L) = S.putLen l0 128 c 8 := by rw [HC.out, hl0]; rfl
  have HE := hide hend
  clear hl0 hend hlen HN HF HS
  go_loopw [7, 8] (fun ct i wr => ∃ j p : Nat, p + j + 1 = 128 ∧ j ≤ 8 ∧ i = .int .i64 (p : Int) ∧ ct = .int .u64 ((c / 256 ^ j : Nat) : Int) ∧ wr.heap[w.heap.size]? = some (.cells (S.v8 (S.putLen l0 128 c j)) 5 (0, 0)) ∧ Below w.heap.size w wr)
    (fun _ i _ => (intOf i).toNat)
  case atStart => exact ⟨0, 128 - 1, by omega, by omega, rfl, by simp, hrow, hnx⟩
  case round =>
    obtain ⟨j, p, hjp, hj, rfl, rfl, r0, hnx⟩ := hrel
    by_cases hlt : j < 8
    · obtain ⟨x, hx⟩ : ∃ x : Nat, x = c / 256 ^ j := ⟨_, rfl⟩
      have hx2 : x / 256 = c / 256 ^ (j + 1) := by rw [hx, Nat.div_div_eq_div_mul, Nat.pow_succ]
      have R1 := v8_set r0 p (UInt8.ofNat x)
      have hset : (S.putLen l0 128 c j).set p (UInt8.ofNat x) = S.putLen l0 128 c (j + 1) := by
        rw [hx]; show _ = (S.putLen l0 128 c j).set (128 - 1 - j) _; rw [show 128 - 1 - j = p from by omega]
      rw [hset] at R1
      have ce := v8_cell r0 p (by rw [S.putLen_length, hll]; omega)
      have cf := frozen_of_row _ _ p _ _ r0
      have HR := hide R1
      have HX := hide hx2
      have HN := hide hnx
      rw [← hx]
      have q1 : (0 : Int) ≤ (p : Int) := by omega
      have q2 : (p : Int) < 128 := by omega
      have q3 : (128 - 8 : Int) ≤ (p : Int) := by omega
      clear R1 hset r0 hx2 hnx hx hrow
      go_wp2
      go_roundw
      case rel =>
        rw [byte_cast]
        refine ⟨j + 1, p - 1, by omega, by omega, by go_num, ?_, HR.out, HN.out.setCell (Nat.le_refl _) _⟩
        rw [← HX.out]; simp
      case measure => simp [intOf]; omega
    · obtain rfl : j = 8 := by omega
      obtain rfl : p = 128 - 9 := by omega
      have HR := hide r0
      have HN := hide hnx
      clear r0 hnx hrow
      go_wp2
      go_ret
      exact ⟨rfl, by rw [HE.out]; exact HR.out, HN.out⟩
end Go.Proofs.YtlcilclhaahopaaDoor
