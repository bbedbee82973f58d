/- Same of two lists that read as the same bytes is true; the mark of a list's place is told; nothing changes. -/
import Derived.Test.YtldkkgdkjddohaaCells
namespace Go.Proofs.Ytldkkgdkjddohaa
open Go.RowKit
set_option maxHeartbeats 800000 in
set_option maxRecDepth 100000 in
theorem same_any (v u : Value) (bs : List Int) (w : World) (hv : SliceAt w v bs) (hu : SliceAt w u bs) :
   Calls Try.prog 23 #[v, u] w fun e w' => e = .returned (.bool true) ∧ Still w w' := by
  obtain ⟨ao, len, cap, rfl, hlen, hmax⟩ := hv.form
  obtain ⟨ao2, len2, cap2, rfl, hlen2, _⟩ := hu.form
  obtain rfl : len = len2 := by omega
  have HV := hide hv
  have HU := hide hu
  have HL := hide hlen
  clear hv hu hlen hlen2
  go_enter Try.func23, Try.ntmps23
  go_wp2
  go_loopw [5] (fun i wr => ∃ k : Nat, k ≤ len ∧ i = .int .i64 (k : Int) ∧ Still w wr) (fun i _ => len - (intOf i).toNat)
  case atStart => exact ⟨0, by omega, rfl, Still.refl _⟩
  case round =>
    obtain ⟨k, hk, rfl, hst⟩ := hrel
    by_cases hlt : k < len
    · have hp : 0 < bs.length := by have := HL.out; omega
      obtain ⟨b, off, rfl, _, _, hc⟩ := HV.out.src hp
      obtain ⟨b2, off2, rfl, _, _, hc2⟩ := HU.out.src hp
      have c1 : wr.cell? ⟨b, off + k, none⟩ = some (.int .i64 (bs.getD k 0)) := by rw [← hc k (by have := HL.out; omega)]; exact World.cell?_of_block (by rw [hst.1])
      have c2 : wr.cell? ⟨b2, off2 + k, none⟩ = some (.int .i64 (bs.getD k 0)) := by rw [← hc2 k (by have := HL.out; omega)]; exact World.cell?_of_block (by rw [hst.1])
      generalize bs.getD k 0 = x at c1 c2
      have q1 : (0 : Int) ≤ (k : Int) := by omega
      have q2 : (k : Int) < (len : Int) := by omega
      have q4 : IntKind.i64.wrap ((k : Int) + 1) = (k : Int) + 1 := by rw [IntKind.wrap_i64]; omega
      have ST := hide hst
      clear hc hc2 hst
      go_wp2
      go_quiet (fail)
      go_wp2
      go_roundw
      case rel => exact ⟨k + 1, by omega, by go_num, ST.out⟩
      case measure => simp [intOf]; omega
    · obtain rfl : k = len := by omega
      go_wp2
      go_ret
      exact ⟨rfl, hst⟩
/-- The mark of place j of list i. -/
def S.mark (i _j : Nat) : Int := -1000 - (i : Int)
theorem bytes_any (i j : Nat) (hi : i ≤ 200) (_hj : j ≤ 9223372036854775807) (w : World) :
   Calls Try.prog 20 #[.int .i64 (i : Int), .int .i64 (j : Int)] w fun e w' => e = .returned (.int .i64 (S.mark i j)) ∧ w = w' := by
  have q1 : IntKind.i64.wrap (-1000 - (i : Int)) = -1000 - (i : Int) := by rw [IntKind.wrap_i64]; omega
  go_enter Try.func20, Try.ntmps20
  go_wp2
  go_ret
  exact ⟨rfl, rfl⟩
end Go.Proofs.Ytldkkgdkjddohaa
