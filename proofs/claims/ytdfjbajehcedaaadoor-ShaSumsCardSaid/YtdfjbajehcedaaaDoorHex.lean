/- hex: the 64 digits of a digest are the Lean function's; nothing that was there changes. -/
import Derived.Test.YtdfjbajehcedaaaDoorSum
namespace Go.Proofs.YtdfjbajehcedaaaDoor
open Go.RowKit
namespace S
def hexDigits : List UInt8 := [48, 49, 50, 51, 52, 53, 54, 55, 56, 57, 97, 98, 99, 100, 101, 102]
def hx (n : Nat) : ByteArray := ⟨#[hexDigits.getD n 0]⟩
theorem hx_size (n : Nat) : (hx n).size = 1 := rfl
def hexS (d : List UInt8) : Nat → ByteArray
  | 0 => ⟨#[]⟩
  | k + 1 => hexS d k ++ hx ((d.getD k 0).toNat / 16) ++ hx ((d.getD k 0).toNat % 16)
theorem hexS_size (d : List UInt8) (k : Nat) : (hexS d k).size = 2 * k := by
  induction k with
  | zero => rfl
  | succ k ih => simp only [hexS, ByteArray.size_append, ih, hx_size]; omega
end S
theorem hexslice_0 (w : World) : (Instr.slice 9 (.string { data := #[48, 49, 50, 51, 52, 53, 54, 55, 56, 57, 97, 98, 99, 100, 101, 102] }) (some (.int .u8 ((0 : Nat) : Int))) (some (.int .u8 (((0 : Nat) : Int) + 1))) none).run Tryd.prog w = .ok (.string (S.hx 0)) w := by kernel_rfl
theorem hexslice_1 (w : World) : (Instr.slice 9 (.string { data := #[48, 49, 50, 51, 52, 53, 54, 55, 56, 57, 97, 98, 99, 100, 101, 102] }) (some (.int .u8 ((1 : Nat) : Int))) (some (.int .u8 (((1 : Nat) : Int) + 1))) none).run Tryd.prog w = .ok (.string (S.hx 1)) w := by kernel_rfl
theorem hexslice_2 (w : World) : (Instr.slice 9 (.string { data := #[48, 49, 50, 51, 52, 53, 54, 55, 56, 57, 97, 98, 99, 100, 101, 102] }) (some (.int .u8 ((2 : Nat) : Int))) (some (.int .u8 (((2 : Nat) : Int) + 1))) none).run Tryd.prog w = .ok (.string (S.hx 2)) w := by kernel_rfl
theorem hexslice_3 (w : World) : (Instr.slice 9 (.string { data := #[48, 49, 50, 51, 52, 53, 54, 55, 56, 57, 97, 98, 99, 100, 101, 102] }) (some (.int .u8 ((3 : Nat) : Int))) (some (.int .u8 (((3 : Nat) : Int) + 1))) none).run Tryd.prog w = .ok (.string (S.hx 3)) w := by kernel_rfl
theorem hexslice_4 (w : World) : (Instr.slice 9 (.string { data := #[48, 49, 50, 51, 52, 53, 54, 55, 56, 57, 97, 98, 99, 100, 101, 102] }) (some (.int .u8 ((4 : Nat) : Int))) (some (.int .u8 (((4 : Nat) : Int) + 1))) none).run Tryd.prog w = .ok (.string (S.hx 4)) w := by kernel_rfl
theorem hexslice_5 (w : World) : (Instr.slice 9 (.string { data := #[48, 49, 50, 51, 52, 53, 54, 55, 56, 57, 97, 98, 99, 100, 101, 102] }) (some (.int .u8 ((5 : Nat) : Int))) (some (.int .u8 (((5 : Nat) : Int) + 1))) none).run Tryd.prog w = .ok (.string (S.hx 5)) w := by kernel_rfl
theorem hexslice_6 (w : World) : (Instr.slice 9 (.string { data := #[48, 49, 50, 51, 52, 53, 54, 55, 56, 57, 97, 98, 99, 100, 101, 102] }) (some (.int .u8 ((6 : Nat) : Int))) (some (.int .u8 (((6 : Nat) : Int) + 1))) none).run Tryd.prog w = .ok (.string (S.hx 6)) w := by kernel_rfl
theorem hexslice_7 (w : World) : (Instr.slice 9 (.string { data := #[48, 49, 50, 51, 52, 53, 54, 55, 56, 57, 97, 98, 99, 100, 101, 102] }) (some (.int .u8 ((7 : Nat) : Int))) (some (.int .u8 (((7 : Nat) : Int) + 1))) none).run Tryd.prog w = .ok (.string (S.hx 7)) w := by kernel_rfl
theorem hexslice_8 (w : World) : (Instr.slice 9 (.string { data := #[48, 49, 50, 51, 52, 53, 54, 55, 56, 57, 97, 98, 99, 100, 101, 102] }) (some (.int .u8 ((8 : Nat) : Int))) (some (.int .u8 (((8 : Nat) : Int) + 1))) none).run Tryd.prog w = .ok (.string (S.hx 8)) w := by kernel_rfl
theorem hexslice_9 (w : World) : (Instr.slice 9 (.string { data := #[48, 49, 50, 51, 52, 53, 54, 55, 56, 57, 97, 98, 99, 100, 101, 102] }) (some (.int .u8 ((9 : Nat) : Int))) (some (.int .u8 (((9 : Nat) : Int) + 1))) none).run Tryd.prog w = .ok (.string (S.hx 9)) w := by kernel_rfl
theorem hexslice_10 (w : World) : (Instr.slice 9 (.string { data := #[48, 49, 50, 51, 52, 53, 54, 55, 56, 57, 97, 98, 99, 100, 101, 102] }) (some (.int .u8 ((10 : Nat) : Int))) (some (.int .u8 (((10 : Nat) : Int) + 1))) none).run Tryd.prog w = .ok (.string (S.hx 10)) w := by kernel_rfl
theorem hexslice_11 (w : World) : (Instr.slice 9 (.string { data := #[48, 49, 50, 51, 52, 53, 54, 55, 56, 57, 97, 98, 99, 100, 101, 102] }) (some (.int .u8 ((11 : Nat) : Int))) (some (.int .u8 (((11 : Nat) : Int) + 1))) none).run Tryd.prog w = .ok (.string (S.hx 11)) w := by kernel_rfl
theorem hexslice_12 (w : World) : (Instr.slice 9 (.string { data := #[48, 49, 50, 51, 52, 53, 54, 55, 56, 57, 97, 98, 99, 100, 101, 102] }) (some (.int .u8 ((12 : Nat) : Int))) (some (.int .u8 (((12 : Nat) : Int) + 1))) none).run Tryd.prog w = .ok (.string (S.hx 12)) w := by kernel_rfl
theorem hexslice_13 (w : World) : (Instr.slice 9 (.string { data := #[48, 49, 50, 51, 52, 53, 54, 55, 56, 57, 97, 98, 99, 100, 101, 102] }) (some (.int .u8 ((13 : Nat) : Int))) (some (.int .u8 (((13 : Nat) : Int) + 1))) none).run Tryd.prog w = .ok (.string (S.hx 13)) w := by kernel_rfl
theorem hexslice_14 (w : World) : (Instr.slice 9 (.string { data := #[48, 49, 50, 51, 52, 53, 54, 55, 56, 57, 97, 98, 99, 100, 101, 102] }) (some (.int .u8 ((14 : Nat) : Int))) (some (.int .u8 (((14 : Nat) : Int) + 1))) none).run Tryd.prog w = .ok (.string (S.hx 14)) w := by kernel_rfl
theorem hexslice_15 (w : World) : (Instr.slice 9 (.string { data := #[48, 49, 50, 51, 52, 53, 54, 55, 56, 57, 97, 98, 99, 100, 101, 102] }) (some (.int .u8 ((15 : Nat) : Int))) (some (.int .u8 (((15 : Nat) : Int) + 1))) none).run Tryd.prog w = .ok (.string (S.hx 15)) w := by kernel_rfl
theorem hexslice (n : Nat) (hn : n < 16) (w : World) : (Instr.slice 9 (.string { data := #[48, 49, 50, 51, 52, 53, 54, 55, 56, 57, 97, 98, 99, 100, 101, 102] }) (some (.int .u8 (n : Int))) (some (.int .u8 ((n : Int) + 1))) none).run Tryd.prog w = .ok (.string (S.hx n)) w := by
  rcases (by omega : n = 0 ∨ n = 1 ∨ n = 2 ∨ n = 3 ∨ n = 4 ∨ n = 5 ∨ n = 6 ∨ n = 7 ∨ n = 8 ∨ n = 9 ∨ n = 10 ∨ n = 11 ∨ n = 12 ∨ n = 13 ∨ n = 14 ∨ n = 15) with rfl | rfl | rfl | rfl | rfl | rfl | rfl | rfl | rfl | rfl | rfl | rfl | rfl | rfl | rfl | rfl
  · exact hexslice_0 w
  · exact hexslice_1 w
  · exact hexslice_2 w
  · exact hexslice_3 w
  · exact hexslice_4 w
  · exact hexslice_5 w
  · exact hexslice_6 w
  · exact hexslice_7 w
  · exact hexslice_8 w
  · exact hexslice_9 w
  · exact hexslice_10 w
  · exact hexslice_11 w
  · exact hexslice_12 w
  · exact hexslice_13 w
  · exact hexslice_14 w
  · exact hexslice_15 w
set_option maxHeartbeats 800000 in
set_option maxRecDepth 100000 in
theorem hex_any (d : List UInt8) (hd : d.length = 32) (w : World) :
   Calls Tryd.prog 9 #[.agg (S.v8 d)] w fun e w' => e = .returned (.string (S.hexS d 32)) ∧ Below w.heap.size w w' := by
  have HD := hide hd
  clear hd
  go_enter Tryd.func9, Tryd.ntmps9
  go_wp2
  go_loopw [3, 4] (fun s i wr => ∃ k : Nat, k ≤ 32 ∧ i = .int .i64 (k : Int) ∧ s = .string (S.hexS d k) ∧ wr.heap[w.heap.size]? = some (.cells (S.v8 d) 23 (0, 0)) ∧ Below w.heap.size w wr)
    (fun _ i _ => 32 - (intOf i).toNat)
  case atStart => exact ⟨0, by omega, rfl, rfl, heap_alloc_new _ _, (Below.refl _ _).alloc (Nat.le_refl _) _⟩
  case round =>
    obtain ⟨k, hk, rfl, rfl, r0, hnx⟩ := hrel
    by_cases hlt : k < 32
    · have hd := HD.out
      have ce := v8_cell r0 k (by omega)
      obtain ⟨x, hx⟩ : ∃ x : UInt8, x = d.getD k 0 := ⟨_, rfl⟩
      rw [← hx] at ce
      have hxl : x.toNat < 256 := x.toNat_lt
      obtain ⟨p, hp⟩ : ∃ p, p = x.toNat / 16 := ⟨_, rfl⟩
      obtain ⟨q, hq⟩ : ∃ q, q = x.toNat % 16 := ⟨_, rfl⟩
      have e1 : (x.toNat : Int) / 16 = (p : Int) := by omega
      have e2 : IntKind.u8.wrap ((p : Int) + 1) = (p : Int) + 1 := by rw [IntKind.wrap_u8']; omega
      have e3 : bits .and .u8 (x.toNat : Int) 15 = (q : Int) := by
        have := u8_and_nat x.toNat 15 hxl (by omega)
        rw [show ((15 : Nat) : Int) = 15 from rfl] at this
        rw [this, hq, show 15 = 2 ^ 4 - 1 from rfl, Nat.and_two_pow_sub_one_eq_mod]
      have e4 : IntKind.u8.wrap ((q : Int) + 1) = (q : Int) + 1 := by rw [IntKind.wrap_u8']; omega
      have s1 := hexslice p (by omega)
      have s2 := hexslice q (by omega)
      obtain ⟨t, ht⟩ : ∃ t : ByteArray, t = S.hexS d k := ⟨_, rfl⟩
      have hsz : t.size ≤ 64 := by rw [ht, S.hexS_size]; omega
      have z1 := S.hx_size p
      have z2 := S.hx_size q
      have hnext : S.hexS d (k + 1) = t ++ S.hx p ++ S.hx q := by rw [ht, hp, hq, hx]; rfl
      rw [← ht]
      have q1 : (0 : Int) ≤ (k : Int) := by omega
      have q2 : (k : Int) < 32 := by omega
      have R := hide r0
      have N := hide hnx
      have X := hide hnext
      clear r0 hnx hx hd hp hq ht hnext hxl
      go_wp2
      go_quiet (fail)
      go_wp2
      go_roundw
      case rel =>
        exact ⟨k + 1, by omega, by go_num, by rw [X.out], R.out, below_drewN N.out _⟩
      case measure => simp [intOf]; omega
    · obtain rfl : k = 32 := by omega
      go_wp2
      go_ret
      exact ⟨rfl, hnx⟩
end Go.Proofs.YtdfjbajehcedaaaDoor
