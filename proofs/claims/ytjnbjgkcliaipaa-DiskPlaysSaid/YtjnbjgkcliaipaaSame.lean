/- Same of two lists that read as the same bytes is true; the mark of a list's place is told; nothing changes. -/
import Derived.Test.YtjnbjgkcliaipaaCells
namespace Go.Proofs.Ytjnbjgkcliaipaa
open Go.RowKit
set_option maxHeartbeats 800000 in
set_option maxRecDepth 100000 in
theorem same_any (v u : Value) (bs : List UInt8) (w : World) (hv : SliceAt w v bs) (hu : SliceAt w u bs) :
   Calls Try.prog 38 #[v, u] w fun e w' => e = .returned (.bool true) ∧ Still w w' := by
  obtain ⟨ao, len, cap, rfl, hlen, hmax⟩ := hv.form
  obtain ⟨ao2, len2, cap2, rfl, hlen2, _⟩ := hu.form
  obtain rfl : len = len2 := by omega
  have HV := hide hv
  have HU := hide hu
  have HL := hide hlen
  clear hv hu hlen hlen2
  go_enter Try.func38, Try.ntmps38
  go_wp2
  go_loopw [5] (fun i wr => ∃ k : Nat, k ≤ len ∧ i = .int .i64 (k : Int) ∧ Still w wr) (fun i _ => len - (intOf i).toNat)
  case atStart => exact ⟨0, by omega, rfl, Still.refl _⟩
  case round =>
    obtain ⟨k, hk, rfl, hst⟩ := hrel
    by_cases hlt : k < len
    · have hp : 0 < bs.length := by have := HL.out; omega
      obtain ⟨b, off, rfl, _, _, hc⟩ := HV.out.src hp
      obtain ⟨b2, off2, rfl, _, _, hc2⟩ := HU.out.src hp
      have c1 : wr.cell? ⟨b, off + k, none⟩ = some (.int .u8 ((bs.getD k 0).toNat : Int)) := by rw [← hc k (by have := HL.out; omega)]; exact World.cell?_of_block (by rw [hst.1])
      have c2 : wr.cell? ⟨b2, off2 + k, none⟩ = some (.int .u8 ((bs.getD k 0).toNat : Int)) := by rw [← hc2 k (by have := HL.out; omega)]; exact World.cell?_of_block (by rw [hst.1])
      generalize bs.getD k 0 = x at c1 c2
      have q1 : (0 : Int) ≤ (k : Int) := by omega
      have q2 : (k : Int) < (len : Int) := by omega
      have q4 : IntKind.i64.wrap ((k : Int) + 1) = (k : Int) + 1 := by rw [IntKind.wrap_i64]; omega
      have ST := hide hst
      clear hc hc2 hst
      go_wp2
      go_quiet (fail)
      go_wp2
      go_roundw
      case rel => exact ⟨k + 1, by omega, by go_num, ST.out⟩
      case measure => simp [intOf]; omega
    · obtain rfl : k = len := by omega
      go_wp2
      go_ret
      exact ⟨rfl, hst⟩
/-- The mark of place j of list i. -/
def S.mark (i j : Nat) : Int := if j % 3 = 0 then ((i + 1 : Nat) : Int) else 0
set_option maxHeartbeats 800000 in
theorem bytes_any (i j : Nat) (hi : i ≤ 200) (hj : j ≤ 9223372036854775807) (w : World) :
   Calls Try.prog 33 #[.int .i64 (i : Int), .int .i64 (j : Int)] w fun e w' => e = .returned (.int .u8 (S.mark i j)) ∧ w = w' := by
  have q1 : IntKind.i64.wrap ((i : Int) + 1) = (i : Int) + 1 := by rw [IntKind.wrap_i64]; omega
  have q2 : (0 : Int) ≤ (j : Int) := by omega
  go_enter Try.func33, Try.ntmps33
  rcases (by omega : j % 3 = 0 ∨ j % 3 = 1 ∨ j % 3 = 2) with h | h | h
  · have e1 : (j : Int).tmod 3 = 0 := by rw [Int.tmod_eq_emod_of_nonneg q2]; omega
    go_wp2
    go_ret
    exact ⟨by simp [S.mark, h], rfl⟩
  · have e1 : (j : Int).tmod 3 = 1 := by rw [Int.tmod_eq_emod_of_nonneg q2]; omega
    have e2 : ((i : Int) + 1) / 256 = 0 := by omega
    go_wp2
    go_ret
    exact ⟨by simp [S.mark, h], rfl⟩
  · have e1 : (j : Int).tmod 3 = 2 := by rw [Int.tmod_eq_emod_of_nonneg q2]; omega
    have e2 : ((i : Int) + 1) / 65536 = 0 := by omega
    go_wp2
    go_ret
    exact ⟨by simp [S.mark, h], rfl⟩
end Go.Proofs.Ytjnbjgkcliaipaa
