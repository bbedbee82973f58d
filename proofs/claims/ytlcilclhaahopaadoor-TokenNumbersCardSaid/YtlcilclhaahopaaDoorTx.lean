/- TokenNumbers: what is plain. -/
import Derived.Test.YtlcilclhaahopaaDoorTv
import Derived.Test.YtlcilclhaahopaaDoorTn
namespace Go.Proofs.YtlcilclhaahopaaDoor
open Go.RowKit

namespace S
def nT : Tk := mint (root 2) 0
def nB : List UInt8 := bytesOf nT
def nF : Nat → Tk
  | 0 => nT
  | i + 1 => (narrow (nF i) ⟨3, 9⟩).1
def nCut : Tk := ⟨(nF 4).id, (nF 4).cs.take 3, (nF 4).tag⟩
theorem n_enc : encode nT = (nB, 0) := rfl
theorem n_len : nB.length = 37 := (bytesOf_length nT (mint_tag _ _)).trans rfl
theorem n_dec : decode nB = (nT, (0, 0)) := by kernel_rfl
theorem n_cut : decode (nB.take 36) = (t0, (36, 10)) := by kernel_rfl
theorem n_kind : (narrow nT ⟨4, 0⟩).2 = 1 := rfl
theorem nF_cs (i : Nat) (h : i ≤ 4) : (nF i).cs = List.replicate i ⟨3, 9⟩ ∧ Made (root 2) (nF i) ∧ (nF i).Ok := by
  induction i with
  | zero => exact ⟨rfl, made_mint _ _ _ rfl, mint_ok _ _ (by decide)⟩
  | succ i ih =>
    obtain ⟨h1, h2, h3⟩ := ih (by omega)
    have hl : (nF i).cs.length < 4 := by rw [h1, List.length_replicate]; omega
    have e := narrow_yes (nF i) ⟨3, 9⟩ rfl hl
    refine ⟨?_, made_narrow h2 (by rw [e]), narrow_ok _ _ h3 ⟨by decide, by decide, by decide⟩⟩
    show (narrow (nF i) ⟨3, 9⟩).1.cs = _
    rw [e, List.replicate_succ', ← h1]
theorem nF_err (i : Nat) (h : i < 4) : (narrow (nF i) ⟨3, 9⟩).2 = 0 := by
  have hl : (nF i).cs.length < 4 := by rw [(nF_cs i (by omega)).1, List.length_replicate]; omega
  rw [narrow_yes (nF i) ⟨3, 9⟩ rfl hl]
theorem n_full : (narrow (nF 4) ⟨3, 0⟩).2 = 4 := by
  have hl : (nF 4).cs.length = 4 := by rw [(nF_cs 4 (by omega)).1, List.length_replicate]
  unfold narrow
  rw [if_neg (by simp [odd]), if_pos (by omega)]
theorem n_gen : genuine (root 2) (nF 4) = true := (nF_cs 4 (by omega)).2.1.genuine
theorem n_gen0 : genuine (root 2) nT = true := (nF_cs 0 (by omega)).2.1.genuine
theorem n_not : genuine (root 2) nCut = false := by kernel_rfl
theorem n_h3 : holds (narrow nT ⟨3, 0⟩).1.cs 1 1 0 = false := rfl
theorem n_h2 : holds (narrow nT ⟨2, 1⟩).1.cs 1 1 0 = false := rfl
end S
end Go.Proofs.YtlcilclhaahopaaDoor
