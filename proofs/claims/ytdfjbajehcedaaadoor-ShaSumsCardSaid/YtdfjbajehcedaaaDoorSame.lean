/- Same of two lists that read as the same bytes is true; the mark of a list's place is told; nothing changes. -/
import Derived.Test.YtdfjbajehcedaaaDoorJoin
namespace Go.Proofs.YtdfjbajehcedaaaDoor
open Go.RowKit
theorem SliceAt.src {w : World} {ao : Option Addr} {len cap : Nat} {bs : List UInt8} (h : SliceAt w (.slice ao len cap) bs) (hp : 0 < bs.length) :
    ∃ b off, ao = some ⟨b, off, none⟩ ∧ b < w.heap.size ∧ len = bs.length ∧ ∀ j, j < bs.length → w.cell? ⟨b, off + j, none⟩ = some (.int .u8 ((bs.getD j 0).toNat : Int)) := by
  rcases h with ⟨_, rfl⟩ | ⟨a, c, _, _, rfl⟩ | ⟨b, off, c, h, h1, h2, h3, h4⟩
  · simp at hp
  · simp at hp
  · simp only [Value.slice.injEq] at h
    exact ⟨b, off, h.1, h3, h.2.1, h4⟩
theorem SliceAt.of_heap {w w' : World} {v : Value} {bs : List UInt8} (h : SliceAt w v bs) (hh : w'.heap = w.heap) : SliceAt w' v bs := by
  rcases h with h | h | ⟨b, off, c, h, h1, h2, h3, h4⟩
  · exact Or.inl h
  · exact Or.inr (Or.inl h)
  · exact Or.inr (Or.inr ⟨b, off, c, h, h1, h2, by rw [hh]; exact h3, fun j hj => by rw [← h4 j hj]; exact World.cell?_of_block (by rw [hh])⟩)
/-- Nothing but the count of draws has changed. -/
def Still (w w' : World) : Prop := w'.heap = w.heap ∧ w'.os = w.os ∧ w'.tape = w.tape ∧ w'.output = w.output
theorem Still.refl (w : World) : Still w w := ⟨rfl, rfl, rfl, rfl⟩
theorem Still.drew {w w' : World} (h : Still w w') : Still w w'.drew := h
theorem Still.trans {a b c : World} (h : Still a b) (k : Still b c) : Still a c := ⟨k.1.trans h.1, k.2.1.trans h.2.1, k.2.2.1.trans h.2.2.1, k.2.2.2.trans h.2.2.2⟩
theorem Still.below {w w' : World} (h : Still w w') (B : Nat) : Below B w w' := ⟨h.2.1, h.2.2.1, h.2.2.2, by rw [h.1]; exact Nat.le_refl _, fun k _ => by rw [h.1]⟩
set_option maxHeartbeats 800000 in
set_option maxRecDepth 100000 in
theorem same_any (v u : Value) (bs : List UInt8) (w : World) (hv : SliceAt w v bs) (hu : SliceAt w u bs) :
   Calls Tryd.prog 31 #[v, u] w fun e w' => e = .returned (.bool true) ∧ Still w w' := by
  obtain ⟨ao, len, cap, rfl, hlen, hmax⟩ := hv.form
  obtain ⟨ao2, len2, cap2, rfl, hlen2, _⟩ := hu.form
  obtain rfl : len = len2 := by omega
  have HV := hide hv
  have HU := hide hu
  have HL := hide hlen
  clear hv hu hlen hlen2
  go_enter Tryd.func31, Tryd.ntmps31
  go_wp2
  go_loopw [5] (fun i wr => ∃ k : Nat, k ≤ len ∧ i = .int .i64 (k : Int) ∧ Still w wr) (fun i _ => len - (intOf i).toNat)
  case atStart => exact ⟨0, by omega, rfl, Still.refl _⟩
  case round =>
    obtain ⟨k, hk, rfl, hst⟩ := hrel
    by_cases hlt : k < len
    · have hp : 0 < bs.length := by have := HL.out; omega
      obtain ⟨b, off, rfl, _, _, hc⟩ := HV.out.src hp
      obtain ⟨b2, off2, rfl, _, _, hc2⟩ := HU.out.src hp
      have c1 : wr.cell? ⟨b, off + k, none⟩ = some (.int .u8 ((bs.getD k 0).toNat : Int)) := by rw [← hc k (by have := HL.out; omega)]; exact World.cell?_of_block (by rw [hst.1])
      have c2 : wr.cell? ⟨b2, off2 + k, none⟩ = some (.int .u8 ((bs.getD k 0).toNat : Int)) := by rw [← hc2 k (by have := HL.out; omega)]; exact World.cell?_of_block (by rw [hst.1])
      generalize bs.getD k 0 = x at c1 c2
      have q1 : (0 : Int) ≤ (k : Int) := by omega
      have q2 : (k : Int) < (len : Int) := by omega
      have q4 : IntKind.i64.wrap ((k : Int) + 1) = (k : Int) + 1 := by rw [IntKind.wrap_i64]; omega
      have ST := hide hst
      clear hc hc2 hst
      go_wp2
      go_quiet (fail)
      go_wp2
      go_roundw
      case rel => exact ⟨k + 1, by omega, by go_num, ST.out⟩
      case measure => simp [intOf]; omega
    · obtain rfl : k = len := by omega
      go_wp2
      go_ret
      exact ⟨rfl, hst⟩
/-- The mark of place j of list i. -/
def S.mark (i j : Nat) : Int := if j % 3 = 0 then ((i + 1 : Nat) : Int) else 0
set_option maxHeartbeats 800000 in
theorem bytes_any (i j : Nat) (hi : i ≤ 200) (hj : j ≤ 9223372036854775807) (w : World) :
   Calls Tryd.prog 24 #[.int .i64 (i : Int), .int .i64 (j : Int)] w fun e w' => e = .returned (.int .u8 (S.mark i j)) ∧ w = w' := by
  have q1 : IntKind.i64.wrap ((i : Int) + 1) = (i : Int) + 1 := by rw [IntKind.wrap_i64]; omega
  have q2 : (0 : Int) ≤ (j : Int) := by omega
  go_enter Tryd.func24, Tryd.ntmps24
  rcases (by omega : j % 3 = 0 ∨ j % 3 = 1 ∨ j % 3 = 2) with h | h | h
  · have e1 : (j : Int).tmod 3 = 0 := by rw [Int.tmod_eq_emod_of_nonneg q2]; omega
    go_wp2
    go_ret
    exact ⟨by simp [S.mark, h], rfl⟩
  · have e1 : (j : Int).tmod 3 = 1 := by rw [Int.tmod_eq_emod_of_nonneg q2]; omega
    have e2 : ((i : Int) + 1) / 256 = 0 := by omega
    go_wp2
    go_ret
    exact ⟨by simp [S.mark, h], rfl⟩
  · have e1 : (j : Int).tmod 3 = 2 := by rw [Int.tmod_eq_emod_of_nonneg q2]; omega
    have e2 : ((i : Int) + 1) / 65536 = 0 := by omega
    go_wp2
    go_ret
    exact ⟨by simp [S.mark, h], rfl⟩
end Go.Proofs.YtdfjbajehcedaaaDoor
