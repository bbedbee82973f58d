/- The plain side of long keys: a key of more than 64 bytes tags as its hash does; noughts behind a short key change nothing. -/
import Derived.Test.YtlcilclhaahopaaDoorMac
namespace Go.Proofs.YtlcilclhaahopaaDoor
open Go.RowKit
theorem keyb_hash (ks : List UInt8) (h : 64 < ks.length) : S.keyb (S.sum ks) = S.keyb ks := by
  have h32 := S.sum_length ks
  unfold S.keyb
  rw [if_pos h, if_neg (by omega)]
theorem keyb_noughts (ks : List UInt8) (m : Nat) (h : ks.length + m ≤ 64) : S.keyb (ks ++ S.zeros m) = S.keyb ks := by
  have hl : (ks ++ S.zeros m).length = ks.length + m := by rw [List.length_append, S.zeros_length]
  unfold S.keyb
  rw [if_neg (by omega), if_neg (by omega), splice_front 64 ks, splice_front 64 (ks ++ S.zeros m), hl, List.append_assoc]
  congr 1
  simp only [S.zeros, List.replicate_append_replicate]
  congr 1
  omega
theorem mac_keyb (a b bs : List UInt8) (h : S.keyb a = S.keyb b) : S.mac a bs = S.mac b bs := by
  unfold S.mac S.keyed
  rw [h]
end Go.Proofs.YtlcilclhaahopaaDoor
