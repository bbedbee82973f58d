/- The document's Decode: what is plain. A reader that refused reads nothing more. -/
import Derived.Test.YtlcilclhaahopaaDoorTn
import Derived.Test.YtlcilclhaahopaaDoorTz
namespace Go.Proofs.YtlcilclhaahopaaDoor
open Go.RowKit

namespace S
theorem Rd.take_bad (r : Rd) (n : Nat) (h : r.why ≠ 0) : r.take n = (r, []) := by unfold Rd.take; rw [if_neg h]
theorem Rd.number_bad (r : Rd) (k : Int) (h : r.why ≠ 0) : r.number k = (r, 0) := by unfold Rd.number; rw [Rd.take_bad r _ h]; rfl
theorem Rd.fail_bad (r : Rd) (y : Int) (h : r.why ≠ 0) : r.fail y = r := by unfold Rd.fail Rd.refuse; rw [if_neg h]
theorem Rd.digest_bad (r : Rd) (h : r.why ≠ 0) : r.digest.1 = r := by unfold Rd.digest; rw [Rd.take_bad r _ h]
theorem Rd.fin_bad (r : Rd) (h : r.why ≠ 0) : r.fin.2 ≠ 0 := by unfold Rd.fin; rw [if_neg h]; exact h
theorem Rd.number_then (r : Rd) (k : Int) (h : (r.number k).1.why ≠ 0) : (r.number k).2 = 0 := by
  have h' : (r.take (size k)).1.why ≠ 0 := h
  show val (r.take (size k)).2 = 0
  unfold Rd.take at h' ⊢
  split
  · rename_i h1
    rw [if_pos h1] at h'
    split
    · rename_i h2
      rw [if_pos h2] at h'
      exact absurd h1 h'
    · rfl
  · rfl
theorem readCav_bad (r : Rd) (h : r.why ≠ 0) : (readCav r).1 = r := by
  have e : kindRd r = r := by
    unfold kindRd
    rw [Rd.number_bad r 1 h]
    split
    · exact Rd.fail_bad r 12 h
    · rfl
  unfold readCav
  rw [e, Rd.number_bad r 4 h]
theorem readMany_bad (i n : Nat) (r : Rd) (hi : i ≤ n) (h : (readMany i r).1.why ≠ 0) : (readMany n r).1 = (readMany i r).1 := by
  induction n with
  | zero => rw [show i = 0 by omega]
  | succ n ih =>
    by_cases e : i = n + 1
    · rw [e]
    · have e2 := ih (by omega)
      show (readCav (readMany n r).1).1 = _
      rw [e2, readCav_bad _ h]
theorem Rd.refuse_why (r : Rd) (a y : Int) (hy : y ≠ 0) : (r.refuse a y).why ≠ 0 := by
  unfold Rd.refuse
  split
  · exact hy
  · assumption
/-- The document's Decode: it stops where its reader has refused; the answer is the same. -/
theorem decode_is (bs : List UInt8) (id n i : Nat) (r1 r2 r3 : Rd) (cs : List Cv) (h1 : (⟨bs, 0, 0, 0⟩ : Rd).number 4 = (r1, id)) (h2 : r1.number 1 = (r2, n)) (h3 : (r3, cs) = if 4 < n then (r2.fail 4, []) else readMany i r2) (hi : i ≤ n) (he : 4 < n ∨ i = n ∨ r3.why ≠ 0) :
   decode bs = if r3.digest.1.fin.2 = 0 then (⟨id, cs, r3.digest.2⟩, (0, 0)) else (t0, r3.digest.1.fin) := by
  have e1 : readTok ⟨bs, 0, 0, 0⟩ = ((readCavs r1).1.digest.1, ⟨id, (readCavs r1).2, (readCavs r1).1.digest.2⟩) := by unfold readTok; rw [h1]
  have e2 : readCavs r1 = if 4 < n then (r2.fail 4, []) else readMany n r2 := by unfold readCavs; rw [h2]
  unfold decode
  rw [e1]
  by_cases h4 : 4 < n
  · rw [if_pos h4] at e2 h3
    rw [e2, ← h3]
  · rw [if_neg h4] at e2 h3
    by_cases e : i = n
    · subst e
      rw [e2, ← h3]
    · have hw : r3.why ≠ 0 := by rcases he with h | h | h; exact absurd h h4; exact absurd h e; exact h
      have q1 : (readMany i r2).1 = r3 := by rw [← h3]
      have q : (readCavs r1).1 = r3 := by rw [e2, readMany_bad i n r2 hi (by rw [q1]; exact hw), q1]
      rw [q, Rd.digest_bad r3 hw, if_neg (Rd.fin_bad r3 hw), if_neg (Rd.fin_bad r3 hw)]
end S
end Go.Proofs.YtlcilclhaahopaaDoor
