/- Package bytes, as far as a log uses it: Equal, HasPrefix, Clone, TrimRight of noughts. -/
import Derived.Test.YthjlhngjpbmieaaGreatDoorGk
import Derived.Laws.IdiomStrings
import Derived.Lib.BufferRead
namespace Go.Proofs.YthjlhngjpbmieaaGreatDoor
open Go.RowKit
theorem conv_slice {w : World} {v : Value} {bs : List UInt8} (h : SliceAt w v bs) : (convert 31 9 v).run Tryz.prog w = .ok (.string ⟨bs.toArray⟩) w := by
  rcases h with ⟨rfl, rfl⟩ | ⟨a, cap, rfl, _, rfl⟩ | ⟨b, off, cap, rfl, h1, h2, h3, h4⟩
  · exact Lib.run_convert_nil_bytes w 31 9 5 0 Tryz.underlying31 Tryz.underlying5 Tryz.underlying9
  · exact run_convert_bytes_back w 31 9 5 a cap [] Tryz.underlying31 Tryz.underlying5 Tryz.underlying9 (fun j hj => by simp at hj)
  · refine run_convert_bytes_back w 31 9 5 ⟨b, off, none⟩ cap bs Tryz.underlying31 Tryz.underlying5 Tryz.underlying9 (fun j hj => ?_)
    rw [Addr.add_lit]
    have := h4 j hj
    simp only [List.getD_eq_getElem?_getD, List.getElem?_eq_getElem hj, Option.getD_some] at this
    simpa using this
set_option maxRecDepth 10000 in
theorem equal_any (v u : Value) (xs ys : List UInt8) (w : World) (h1 : SliceAt w v xs) (h2 : SliceAt w u ys) :
   Calls Tryz.prog 61 #[v, u] w fun e w' => e = .returned (.bool (decide (xs = ys))) ∧ w = w' := by
  have k1 := conv_slice h1
  have k2 := conv_slice h2
  obtain ⟨ao, l1, c1, rfl, z1⟩ := h1.form
  obtain ⟨bo, l2, c2, rfl, z2⟩ := h2.form
  clear h1 h2 z1 z2
  obtain ⟨A, hA⟩ : ∃ A : ByteArray, A = ⟨xs.toArray⟩ := ⟨_, rfl⟩
  obtain ⟨B, hB⟩ : ∃ A : ByteArray, A = ⟨ys.toArray⟩ := ⟨_, rfl⟩
  rw [← hA] at k1
  rw [← hB] at k2
  have HE : Hid ((A.toList == B.toList) = decide (xs = ys)) := by
    show (A.toList == B.toList) = decide (xs = ys)
    rw [hA, hB, ByteArray.toList_eq, ByteArray.toList_eq]
    rw [Bool.eq_iff_iff]
    simp
  clear hA hB
  go_enter Tryz.func61, Tryz.ntmps61
  go_wp2
  go_ret
  exact ⟨by rw [← HE.out]; rfl, rfl⟩
theorem prefix_take (xs ys : List UInt8) : decide (xs.take ys.length = ys) = decide (ys <+: xs) := by
  rw [decide_eq_decide]
  exact ⟨fun e => List.prefix_iff_eq_take.2 e.symm, fun e => (List.prefix_iff_eq_take.1 e).symm⟩
set_option maxRecDepth 10000 in
theorem prefix_any (v u : Value) (xs ys : List UInt8) (w : World) (h1 : SliceAt w v xs) (h2 : SliceAt w u ys) :
   Calls Tryz.prog 113 #[v, u] w fun e w' => e = .returned (.bool (decide (ys <+: xs))) ∧ w = w' := by
  obtain ⟨ao, l1, c1, rfl, hl1, hm1⟩ := h1.form
  obtain ⟨bo, l2, c2, rfl, hl2, hm2⟩ := h2.form
  have H1 := hide h1
  have H2 := hide h2
  have L1 := hide hl1
  have L2 := hide hl2
  by_cases hlt : l2 ≤ l1
  · have q1 : (l2 : Int) ≤ (l1 : Int) := by omega
    have q2 : (0 : Int) ≤ (l2 : Int) := by omega
    have q3 : (l1 : Int) ≤ (c1 : Int) := by have := h1.le_cap; omega
    have q4 : (l2 : Int) ≤ (c1 : Int) := by omega
    have HP := hide (part_to h1 l2 hlt)
    have HQ := hide (prefix_take xs ys)
    clear h1 h2 hl1 hl2
    go_enter Tryz.func113, Tryz.ntmps113
    go_wp2_with fail
    refine (equal_any _ _ _ _ w HP.out H2.out).mono ?_
    rintro e w1 ⟨rfl, rfl⟩
    rw [L2.out, HQ.out]
    obtain ⟨B, hB⟩ : ∃ B, B = decide (ys <+: xs) := ⟨_, rfl⟩
    rw [← hB]
    have HB := hide hB
    clear hB
    have E := L2.out
    go_wp2_with fail
    go_ret
    exact ⟨by rw [← HB.out]; rfl, rfl⟩
  · have q1 : ¬ (l2 : Int) ≤ (l1 : Int) := by omega
    have HQ : Hid (decide (ys <+: xs) = false) := by
      refine decide_eq_false fun e => ?_
      have := e.length_le
      omega
    clear h1 h2 hl1 hl2
    go_enter Tryz.func113, Tryz.ntmps113
    go_wp2_with fail
    go_ret
    exact ⟨by rw [HQ.out]; rfl, rfl⟩
end Go.Proofs.YthjlhngjpbmieaaGreatDoor
