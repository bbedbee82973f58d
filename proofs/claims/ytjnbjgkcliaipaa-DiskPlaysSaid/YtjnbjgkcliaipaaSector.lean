/- The statements' own helpers: a sector of a byte, a disk that has begun. -/
import Derived.Test.YtjnbjgkcliaipaaCrash
namespace Go.Proofs.Ytjnbjgkcliaipaa
open Go.RowKit
namespace S
def secTo (c : UInt8) (n k : Nat) : List UInt8 := sec c k ++ zeros (n - k)
theorem secTo_length (c : UInt8) (n k : Nat) (h : k ≤ n) : (secTo c n k).length = n := by simp [secTo, sec_length, zeros_length]; omega
theorem sec_succ (c : UInt8) (k : Nat) : sec c (k + 1) = sec c k ++ [c + UInt8.ofNat (k % 7)] := by simp [sec, List.range_succ]
theorem secTo_set (c : UInt8) (n k : Nat) (h : k < n) : (secTo c n k).set k (c + UInt8.ofNat (k % 7)) = secTo c n (k + 1) := by
  unfold secTo
  rw [List.set_append_right _ _ (by rw [sec_length]; omega), sec_length, Nat.sub_self, sec_succ, List.append_assoc]
  congr 1
  rw [show n - k = (n - (k + 1)) + 1 from by omega]
  rfl
end S
set_option maxHeartbeats 1600000 in
theorem sector_any (c : UInt8) (n : Nat) (w : World) (hn : n ≤ 1000) :
   Calls Try.prog 14 #[.int .u8 (c.toNat : Int), .int .i64 (n : Int)] w fun e w' => e = .returned (.slice (some ⟨w.heap.size, 0, none⟩) n n) ∧ w'.heap[w.heap.size]? = some (.cells (S.v8 (S.sec c n)) 5 (0, 0)) ∧ Below w.heap.size w w' := by
  have hmk : ∀ w : World, (Instr.makeSlice 29 (.int .i64 (n : Int)) (.int .i64 (n : Int))).run Try.prog w = .ok (.slice (some ⟨w.heap.size, 0, none⟩) n n) (w.alloc (.cells (S.v8 (S.zeros n)) 5)) := fun w => make_bytes_big n (by omega) w
  have R0 : Hid ((w.alloc (.cells (S.v8 (S.zeros n)) 5)).heap[w.heap.size]? = some (.cells (S.v8 (S.secTo c n 0)) 5 (0, 0))) := heap_alloc_new _ _
  have B0 : Hid (Below w.heap.size w (w.alloc (.cells (S.v8 (S.zeros n)) 5))) := (Below.refl _ _).alloc (Nat.le_refl _) _
  have hc := c.toNat_lt
  go_enter Try.func14, Try.ntmps14
  go_wp2_with fail
  clear hmk
  go_loopw [6] (fun i wr => ∃ k : Nat, k ≤ n ∧ i = .int .i64 (k : Int) ∧ wr.heap[w.heap.size]? = some (.cells (S.v8 (S.secTo c n k)) 5 (0, 0)) ∧ Below w.heap.size w wr) (fun i _ => n - (intOf i).toNat)
  case atStart => exact ⟨0, Nat.zero_le _, rfl, R0.out, B0.out⟩
  case round =>
    obtain ⟨k, hk, rfl, hrow, hb⟩ := hrel
    clear R0 B0
    by_cases hlt : k < n
    · have c1 := v8_cell hrow k (by rw [S.secTo_length c n k hk]; exact hlt)
      have f1 := frozen_of_row _ _ k _ _ hrow
      have V1 := hide (v8_set hrow k (c + UInt8.ofNat (k % 7)))
      rw [S.secTo_set c n k hlt] at V1
      have V3 := hide (hb.setCell (p := ⟨w.heap.size, k, none⟩) (Nat.le_refl _) (.int .u8 ((c + UInt8.ofNat (k % 7)).toNat : Int)))
      have q1 : (0 : Int) ≤ (k : Int) := by omega
      have q2 : (k : Int) < (n : Int) := by omega
      have q4 : IntKind.i64.wrap ((k : Int) + 1) = (k : Int) + 1 := by rw [IntKind.wrap_i64]; omega
      obtain ⟨r, hr⟩ : ∃ r, r = k % 7 := ⟨_, rfl⟩
      have hr7 : r < 7 := by omega
      have q5 : (k : Int).tmod 7 = (r : Int) := by rw [Int.tmod_eq_emod_of_nonneg q1, hr]; omega
      have q6 : IntKind.u8.wrap (r : Int) = (r : Int) := by rw [IntKind.wrap_u8]; omega
      obtain ⟨y, hy⟩ : ∃ y, y = c + UInt8.ofNat (k % 7) := ⟨_, rfl⟩
      have q7 : IntKind.u8.wrap ((c.toNat : Int) + (r : Int)) = (y.toNat : Int) := by
        rw [IntKind.wrap_u8, hy, UInt8.toNat_add, UInt8.toNat_ofNat', ← hr]
        omega
      rw [← hy] at V1 V3
      clear hrow hb hr hy
      go_wp2
      go_roundw
      case rel => exact ⟨k + 1, by omega, by go_num, V1.out, V3.out⟩
      case measure => simp [intOf]; omega
    · obtain rfl : k = n := by omega
      have q2 : ¬ ((k : Int) < (k : Int)) := by omega
      have A := hide hrow
      have B := hide hb
      clear hrow hb
      go_wp2
      go_ret
      refine ⟨rfl, ?_, B.out⟩
      have e : S.secTo c k k = S.sec c k := by simp [S.secTo, S.zeros]
      rw [← e]
      exact A.out
theorem begun_any (n : Nat) (w : World) (h1 : 1 ≤ n) (h2 : n ≤ 8192) :
   Calls Try.prog 10 #[.int .i64 (n : Int)] w fun e w' => ∃ o, e = .returned (.tuple #[o.ptr, .bool true]) ∧ DkIs w' o (S.Dk.new n) ∧ (∀ k, o.has k → w.heap.size ≤ k) ∧ Below w.heap.size w w' := by
  go_enter Try.func10, Try.ntmps10
  go_wp2_with fail
  refine (new_any n w h1 h2).mono ?_
  rintro e w1 ⟨o, rfl, h3, h4, h5⟩
  have H3 := hide h3
  have H4 := hide h4
  have H5 := hide h5
  clear h3 h4 h5
  unfold Ow.ptr
  go_wp2_with fail
  go_ret2
  exact ⟨o, rfl, H3.out, H4.out, H5.out⟩
end Go.Proofs.Ytjnbjgkcliaipaa
