/- Sum of the document's own answer: of a text that lies in memory it answers the plain function's digest; nothing that was there changes. -/
import Derived.Test.YtkljajfgdelfgabDoorBlock
import Derived.Test.YtkljajfgdelfgabDoorPush
import Derived.Deep.DeepCutAuto
namespace Go.Proofs.YtkljajfgdelfgabDoor
open Go.RowKit
def S.byteAt (st : List UInt32) (k : Nat) : UInt8 := match k % 4 with
  | 0 => (st.getD (k / 4) 0 >>> 24).toUInt8
  | 1 => (st.getD (k / 4) 0 >>> 16).toUInt8
  | 2 => (st.getD (k / 4) 0 >>> 8).toUInt8
  | _ => (st.getD (k / 4) 0).toUInt8
def S.digB (st : List UInt32) : Nat → List UInt8
  | 0 => S.zeros 32
  | k + 1 => (S.digB st k).set k (S.byteAt st k)
theorem S.digB_length (st : List UInt32) (k : Nat) : (S.digB st k).length = 32 := by
  induction k with
  | zero => rfl
  | succ k ih => rw [S.digB, List.length_set]; exact ih
theorem S.digB_all (st : List UInt32) (h : st.length = 8) : S.digB st 32 = S.dig st 8 := by
  match st, h with
  | [_, _, _, _, _, _, _, _], _ => rfl
end Go.Proofs.YtkljajfgdelfgabDoor
