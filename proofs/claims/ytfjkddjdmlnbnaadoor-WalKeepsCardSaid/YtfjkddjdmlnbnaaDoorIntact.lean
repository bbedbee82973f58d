/- Intact: a list that Roomy made of bytes, and that has not changed, is found so; nothing changes. -/
import Derived.Test.YtfjkddjdmlnbnaaDoorRoomy
import Derived.Test.YtfjkddjdmlnbnaaDoorGa
namespace Go.Proofs.YtfjkddjdmlnbnaaDoor
open Go.RowKit
theorem roomy_at {w : World} {g : Nat} {bs : List UInt8} (h : w.heap[g]? = some (.cells (S.v8 (S.roomy bs)) 5 (0, 0))) (hl : bs.length + 80 ≤ 140737488355328) (c : Nat) (hc : bs.length ≤ c) : SliceAt w (.slice (some ⟨g, 0, none⟩) bs.length c) bs :=
  Or.inr (Or.inr ⟨g, 0, c, rfl, hc, by omega, block_lt_of_row h, fun j hj => by
    rw [Nat.zero_add]
    have e := v8_cell h j (by rw [S.roomy_length]; omega)
    rw [e]
    congr 4
    simp only [S.roomy, List.getD_eq_getElem?_getD, List.getElem?_append, hj, if_true]⟩)
theorem roomy_mark {w : World} {g : Nat} {bs : List UInt8} (h : w.heap[g]? = some (.cells (S.v8 (S.roomy bs)) 5 (0, 0))) (j : Nat) (h1 : bs.length ≤ j) (h2 : j < bs.length + 80) : w.cell? ⟨g, j, none⟩ = some (.int .u8 165) := by
  have e := v8_cell h j (by rw [S.roomy_length]; omega)
  rw [e]
  have e2 : (S.roomy bs).getD j 0 = 165 := by
    simp only [S.roomy, List.getD_eq_getElem?_getD, List.getElem?_append, List.getElem?_replicate]
    rw [if_neg (by omega), if_pos (by omega)]
    rfl
  rw [e2]
  rfl
set_option maxHeartbeats 800000 in
set_option maxRecDepth 100000 in
theorem intact_any (g : Nat) (v : Value) (bs : List UInt8) (N : Nat) (w : World) (hN : N = bs.length + 80) (hv : SliceAt w v bs) (hl : bs.length + 80 ≤ 140737488355328) (hg : w.heap[g]? = some (.cells (S.v8 (S.roomy bs)) 5 (0, 0))) :
   Calls Tryd.prog 45 #[.slice (some ⟨g, 0, none⟩) N N, v, .int .u8 165] w fun e w' => e = .returned (.bool true) ∧ Still w w' := by
  obtain ⟨ao, len, cap, rfl, hlen, hmax⟩ := hv.form
  have q0 : (N : Int) = (len : Int) + 80 := by omega
  have q1 : (len : Int) ≤ (N : Int) := by omega
  have q2 : (0 : Int) ≤ (len : Int) := by omega
  have HV := hide hv
  have HL := hide hlen
  have HP : Hid (SliceAt w (.slice (some ⟨g, 0, none⟩) len N) bs) := by rw [hlen]; exact roomy_at hg hl N (by omega)
  have HG := hide hg
  have HNN : Hid (N = len + 80) := by show N = len + 80; omega
  have hNl : N ≤ 140737488355328 := by omega
  clear hv hlen hg hN hl
  go_enter Tryd.func45, Tryd.ntmps45
  go_wp2_with fail
  refine (same_any _ _ bs w HP.out HV.out).mono ?_
  rintro e w1 ⟨rfl, hst⟩
  have ST := hide hst
  clear hst
  go_wp2_with fail
  go_loopw [7] (fun i wr => ∃ k : Nat, len ≤ k ∧ k ≤ N ∧ i = .int .i64 (k : Int) ∧ Still w wr) (fun i _ => N - (intOf i).toNat)
  case atStart => exact ⟨len, Nat.le_refl _, by omega, rfl, ST.out⟩
  case round =>
    obtain ⟨k, hk1, hk2, rfl, hst⟩ := hrel
    clear q0 ST
    by_cases hlt : k < N
    · have c1 : wr.cell? ⟨g, k, none⟩ = some (.int .u8 165) := by
        rw [← roomy_mark HG.out k (by have := HL.out; omega) (by have := HL.out; have := HNN.out; omega)]
        exact World.cell?_of_block (by rw [hst.1])
      have p1 : (0 : Int) ≤ (k : Int) := by omega
      have p2 : (k : Int) < (N : Int) := by omega
      have p4 : IntKind.i64.wrap ((k : Int) + 1) = (k : Int) + 1 := by rw [IntKind.wrap_i64]; omega
      have ST := hide hst
      clear hst
      go_wp2
      go_roundw
      case rel => exact ⟨k + 1, by omega, by omega, by go_num, ST.out⟩
      case measure => simp [intOf]; omega
    · obtain rfl : N = k := by omega
      have p2 : ¬ ((N : Int) < (N : Int)) := by omega
      go_wp2
      go_ret
      exact ⟨rfl, hst⟩
end Go.Proofs.YtfjkddjdmlnbnaaDoor
