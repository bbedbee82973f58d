/- block of the document's own answer: of a state of eight words and a block of 64 bytes in memory it answers the state of the plain function; nothing that was there changes. -/
import Derived.Test.YtkljajfgdelfgabDoorNew
import Derived.Test.YtkljajfgdelfgabDoorRturn
namespace Go.Proofs.YtkljajfgdelfgabDoor
open Go.RowKit
def S.addTo (st rl : List UInt32) : Nat → List UInt32
  | 0 => st
  | k + 1 => (S.addTo st rl k).set k (st.getD k 0 + rl.getD k 0)
theorem S.addTo_length (st rl : List UInt32) (k : Nat) : (S.addTo st rl k).length = st.length := by
  induction k with
  | zero => rfl
  | succ k ih => rw [S.addTo, List.length_set]; exact ih
theorem S.addTo_at (st rl : List UInt32) (k j : Nat) (h : k ≤ j) : (S.addTo st rl k).getD j 0 = st.getD j 0 := by
  induction k with
  | zero => rfl
  | succ k ih => rw [S.addTo, List.getD_eq_getElem?_getD, List.getElem?_set_ne (by omega), ← List.getD_eq_getElem?_getD]; exact ih (by omega)
theorem S.addTo_all (st : List UInt32) (hst : st.length = 8) (s : S.R8) (hs : S.ofR s = st) (r : S.R8) : S.addTo st (S.ofR r) 8 = S.addR s r := by
  subst hs
  rfl
theorem rt1_cast (r : S.R8) (k w : UInt32) : ((r.h.toNat : Int) + bits .xor .u32 (bits .xor .u32 ((S.ror r.e 6).toNat : Int) ((S.ror r.e 11).toNat : Int)) ((S.ror r.e 25).toNat : Int) + bits .xor .u32 (bits .and .u32 (r.e.toNat : Int) (r.f.toNat : Int)) (bits .and .u32 (bits .xor .u32 IntKind.u32.max (r.e.toNat : Int)) (r.g.toNat : Int)) + (k.toNat : Int) + (w.toNat : Int)) % (4294967296 : Int) = ((S.t1 r k w).toNat : Int) := by
  rw [u32_not_cast, u32_and_cast, u32_and_cast, u32_xor_cast, u32_xor_cast, u32_xor_cast]
  exact t1_cast r k w
theorem rt2_cast (r : S.R8) : (bits .xor .u32 (bits .xor .u32 ((S.ror r.a 2).toNat : Int) ((S.ror r.a 13).toNat : Int)) ((S.ror r.a 22).toNat : Int) + bits .xor .u32 (bits .xor .u32 (bits .and .u32 (r.a.toNat : Int) (r.b.toNat : Int)) (bits .and .u32 (r.a.toNat : Int) (r.c.toNat : Int))) (bits .and .u32 (r.b.toNat : Int) (r.c.toNat : Int))) % (4294967296 : Int) = ((S.t2 r).toNat : Int) := by
  rw [u32_and_cast, u32_and_cast, u32_and_cast, u32_xor_cast, u32_xor_cast, u32_xor_cast, u32_xor_cast]
  exact t2_cast r
theorem rnext_cast (ws : List UInt32) (k : Nat) : (((bits .xor .u32 (bits .xor .u32 ((S.ror (ws[k - 2]?.getD 0) 17).toNat : Int) ((S.ror (ws[k - 2]?.getD 0) 19).toNat : Int)) (((ws[k - 2]?.getD 0).toNat : Int) / (1024 : Int)) + ((ws[k - 7]?.getD 0).toNat : Int)) % (4294967296 : Int) + bits .xor .u32 (bits .xor .u32 ((S.ror (ws[k - 15]?.getD 0) 7).toNat : Int) ((S.ror (ws[k - 15]?.getD 0) 18).toNat : Int)) (((ws[k - 15]?.getD 0).toNat : Int) / (8 : Int))) % (4294967296 : Int) + ((ws[k - 16]?.getD 0).toNat : Int)) % (4294967296 : Int) = ((S.next ws k).toNat : Int) := by
  rw [shr_10, shr_3, u32_xor_cast, u32_xor_cast, u32_xor_cast, u32_xor_cast, u32_add_cast, u32_add_cast, u32_add_cast]
  simp [S.next, S.ss1, S.ss0]
end Go.Proofs.YtkljajfgdelfgabDoor
