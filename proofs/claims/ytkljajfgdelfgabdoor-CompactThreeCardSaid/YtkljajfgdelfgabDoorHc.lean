/- CompactAdds. -/
import Derived.Test.YtkljajfgdelfgabDoorHb
namespace Go.Proofs.YtkljajfgdelfgabDoor
open Go.RowKit

namespace C
theorem ofs_length (a : Int) (l : List (List UInt8)) (p e : Nat) : (ofs a l p e).length = (blocks p e).length := by rw [ofs, vals_length]
theorem ofs_32 (a : Int) (l : List (List UInt8)) (p e : Nat) : ∀ d ∈ ofs a l p e, d.length = 32 := by
  have : ∀ ts q, ∀ d ∈ vals (rt a l) q ts, d.length = 32 := by
    intro ts
    induction ts with
    | nil => intro q d hd; simp [vals] at hd
    | cons t ts ih =>
      intro q d hd
      rw [vals] at hd
      rcases List.mem_cons.1 hd with rfl | hd
      · exact S.root_length _ _
      · exact ih _ d hd
  exact this _ _
theorem ofs_few (a : Int) (l : List (List UInt8)) (p e : Nat) : (ofs a l p e).length ≤ 64 := by rw [ofs_length]; exact blocks_len p e
theorem right_ofs (a : Int) (l : List (List UInt8)) (p e : Nat) (h : p ≤ e) (he : e ≤ 4294967296) : S.right p e (ofs a l p e).length = true := by
  rw [ofs_length, S.right]; simp [h, he]
theorem ofA_ofs (a : Int) (l : List (List UInt8)) (p e : Nat) (h : p ≤ e) (he : e ≤ l.length) : ofA a l p e = ⟨p, e, ofs a l p e, 0⟩ := by rw [ofA, if_neg (by omega)]
theorem addA_ofs (a : Int) (l : List (List UInt8)) (p i : Nat) (h : p ≤ i) (hi : i < l.length) (hl : l.length ≤ 1000) : addA a p i (ofs a l p i) (S.leaf a (l.getD i [])) = ⟨p, i + 1, ofs a l p (i + 1), 0⟩ := by
  rw [addA, if_pos ⟨right_ofs a l p i h (by omega), by omega⟩, glue, ← ofs_one a l i hi (by omega), join_ofs a [] l p i (i + 1) h (by omega) (by omega) (by omega)]
theorem mergeA_ofs (a : Int) (l : List (List UInt8)) (p m e : Nat) (h : p ≤ m) (h2 : m ≤ e) (he : e ≤ l.length) (hl : l.length ≤ 1000) : mergeA a p m (ofs a l p m) m e (ofs a l m e) = ⟨p, e, ofs a l p e, 0⟩ := by
  rw [mergeA, if_pos ⟨right_ofs a l p m h (by omega), right_ofs a l m e h2 (by omega)⟩, if_pos rfl, glue, join_ofs a [] l p m e h h2 he (by omega)]
theorem rootA_ofs (a : Int) (l : List (List UInt8)) (p e : Nat) (h : p ≤ e) (he : e ≤ 1000) (hp : 0 < p) : rootA a p e (ofs a l p e) = (S.zeros 32, 25) := by
  rw [rootA, if_pos (right_ofs a l p e h (by omega)), if_neg (by omega)]
theorem rootA_all (a : Int) (l : List (List UInt8)) (hl : l.length ≤ 1000) : rootA a 0 l.length (ofs a l 0 l.length) = (S.root a l, 0) := by
  rw [rootA, if_pos (right_ofs a l 0 l.length (by omega) (by omega)), if_pos rfl]
  by_cases h : l.length = 0
  · rw [if_pos h, List.length_eq_zero_iff.1 h]
  · rw [if_neg h, fold_root a [] l (by omega) (by omega)]
end C
theorem alloc30 (w : World) : (Instr.alloc 28 true (.tuple #[])).run Tryd.prog w = .ok (.pointer (some ⟨w.heap.size, 0, none⟩)) (w.alloc (.cells #[.int .u64 0, .int .u64 0, .slice none 0 0] 28)) := by
  go_simp
theorem Ansd.some {w w' : World} {r : Ending} {b e n : Nat} {hs : List (List UInt8)} (h : Ansd w w' r ⟨b, e, hs, n⟩) : ∃ vo vc, r = .returned (.tuple #[.agg #[.int .u64 (b : Int), .int .u64 (e : Int), .slice vo hs.length vc], .int .i64 (n : Int)]) ∧ DgRow 0 w' (.slice vo hs.length vc) hs ∧ Below w.heap.size w w' := by
  obtain ⟨⟨v, h1, h2⟩, h3⟩ := h
  obtain ⟨vo, vc, rfl⟩ := h2.form
  exact ⟨vo, vc, h1, h2.mono (Nat.zero_le _), h3⟩
theorem DgRow.le_cap {B : Nat} {w : World} {ao : Option Addr} {n c : Nat} {hs : List (List UInt8)} (h : DgRow B w (.slice ao n c) hs) : ∀ ao' n' c', Value.slice ao n c = .slice ao' n' c' → n' ≤ c' := fun ao' n' c' e => by
  rw [e] at h
  rcases h.2 with ⟨e', h0⟩ | ⟨g, cap, cur, e', hB, hr, q1, q2, q3, q4⟩
  · simp only [Value.slice.injEq] at e'; omega
  · simp only [Value.slice.injEq] at e'; omega
end Go.Proofs.YtkljajfgdelfgabDoor
