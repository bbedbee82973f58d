/- The document's Holds. -/
import Derived.Test.YtlcilclhaahopaaDoorTq
namespace Go.Proofs.YtlcilclhaahopaaDoor
open Go.RowKit

set_option maxHeartbeats 16000000 in
set_option maxRecDepth 10000 in
theorem rholds_any (x : S.Tk) (cv : Value) (op tree : Int) (clock : Nat) (w : World) (ho : -9223372036854775808 ≤ op ∧ op ≤ 9223372036854775807) (htr : -9223372036854775808 ≤ tree ∧ tree ≤ 9223372036854775807) (hx : x.Ok) (hv : CvAt w cv x.cs) :
   Calls Tryd.prog 24 #[.agg (encT x.id cv x.tag).toArray, .int .i64 op, .int .i64 tree, .int .u64 (clock : Int)] w fun e w' => e = .returned (.bool (S.holds x.cs op tree clock)) ∧ Below w.heap.size w w' := by
  obtain ⟨ao, n, cap, rfl, hn, hncap⟩ := hv.form
  have HN := hide hn
  have HV := hide hv
  have HX := hide hx
  have hnb : n ≤ 140737488355328 := by rw [hn]; exact hx.len
  obtain ⟨bb, hbb⟩ : ∃ bb, bb = S.holds x.cs op tree clock := ⟨_, rfl⟩
  have HBB := hide hbb
  rw [← hbb]
  clear hv hx hn hbb
  have HO := hide ho
  have HTR := hide htr
  clear ho htr
  go_enter Tryd.func24, Tryd.ntmps24
  go_upto_region 1 with fail
  generalize hW0 : w.alloc _ = W0
  have B0 : Below w.heap.size w W0 := by rw [← hW0]; exact (Below.refl _ _).alloc (Nat.le_refl _) _
  have s0 : W0.heap.size = w.heap.size + 1 := by rw [← hW0]; simp
  have r0 : W0.heap[w.heap.size]? = some (.cells (encT x.id (.slice ao n cap) x.tag).toArray 27 (0, 0)) := by rw [← hW0]; exact heap_alloc_new _ _
  have BB : Hid (Below w.heap.size w W0) := B0
  have Q0 : Hid (W0.heap[w.heap.size]? = some (.cells (encT x.id (.slice ao n cap) x.tag).toArray 27 (0, 0))) := r0
  clear hW0 B0 s0 r0
  obtain ⟨c0, c1⟩ := t_cells Q0.out
  go_wp2_with fail
  go_loopg [9] n (fun gk s9 wr => ∃ i : Nat, i + gk = n ∧ s9 = .int .i64 (i : Int) ∧ Hid (S.holds (x.cs.take i) op tree clock = true) ∧ W0 = wr)
  case atStart => exact ⟨0, by omega, rfl, by show S.holds _ _ _ _ = true; simp [S.holds], rfl⟩
  case round =>
    obtain ⟨i, hi, rfl, HH, rfl⟩ := hrel
    cases gk with
    | zero =>
      obtain rfl : i = n := by omega
      have q : ¬ (i : Int) < (i : Int) := by omega
      have HF := hide (show bb = true by
        rw [HBB.out]
        have := HH.out
        rw [List.take_of_length_le (by rw [← HN.out]; exact Nat.le_refl _)] at this
        exact this)
      clear hi
      go_wp2_with fail
      go_ret
      exact ⟨by rw [HF.out]; rfl, BB.out⟩
    | succ gO =>
      have q : (i : Int) < (n : Int) := by omega
      have q0 : (0 : Int) ≤ (i : Int) := by omega
      have q1 : IntKind.i64.wrap ((i : Int) + 1) = (i : Int) + 1 := by rw [IntKind.wrap_i64]; omega
      have hlt : i < x.cs.length := by rw [← HN.out]; omega
      obtain ⟨c, hc⟩ : ∃ c, x.cs[i]? = some c := ⟨_, List.getElem?_eq_getElem hlt⟩
      have HC := hide hc
      obtain ⟨g, off, cap2, e, hle, hg, hra⟩ := (HV.out.below BB.out).cells i c hc
      simp only [Value.slice.injEq] at e
      obtain ⟨e1, -, -⟩ := e
      subst e1
      have HCO := hide (HX.out.cs c (List.mem_of_getElem? hc))
      obtain ⟨k, m⟩ := c
      have hm := HCO.out.n2
      replace hm : m < 4294967296 := hm
      have d0 : W0.cell? ⟨g, off + i * 2, none⟩ = some (.int .i64 k) := by
        have h5 := hra 0 (.int .i64 k) rfl
        rw [Nat.add_zero] at h5
        exact h5
      have d1 : W0.cell? ⟨g, off + i * 2 + 1, none⟩ = some (.int .u32 (m : Int)) := hra 1 (.int .u32 (m : Int)) rfl
      have qm : IntKind.u64.wrap (m : Int) = (m : Int) := wrap_u64_lt m (by omega)
      obtain ⟨b, hb⟩ : ∃ b, b = S.permits ⟨k, m⟩ op tree clock := ⟨_, rfl⟩
      have HB := hide hb
      clear hra hg hle hc HCO hlt
      rcases (by omega : k = 1 ∨ k = 2 ∨ k = 3 ∨ (k ≠ 1 ∧ k ≠ 2 ∧ k ≠ 3)) with hk | hk | hk | ⟨k1, k2, k3⟩
      · subst hk
        have hb2 : b = decide (tree = (m : Int)) := by rw [hb]; simp [S.permits]
        by_cases ht : tree ≥ 0
        · have qt : IntKind.u64.wrap tree = tree := by have := HTR.out.2; rw [IntKind.wrap_u64]; omega
          have qe : (tree == (m : Int)) = b := by rw [hb2]; rfl
          clear hb hb2 hm
          cases b with
          | true =>
            go_wp2_with fail
            go_roundg gO
            case measure => omega
            case rel => exact ⟨i + 1, by omega, by first | rfl | simp, by show S.holds _ _ _ _ = true; exact S.holds_take HC.out HH.out HB.out.symm, rfl⟩
          | false =>
            have HF := hide (show bb = false by rw [HBB.out]; exact S.holds_no (op := op) (tree := tree) (clock := clock) HC.out HB.out.symm)
            go_wp2_with fail
            go_ret
            exact ⟨by rw [HF.out]; rfl, BB.out⟩
        · obtain rfl : b = false := by rw [hb2]; simp; omega
          clear hb hb2 hm
          have HF := hide (show bb = false by rw [HBB.out]; exact S.holds_no (op := op) (tree := tree) (clock := clock) HC.out HB.out.symm)
          go_wp2_with fail
          go_ret
          exact ⟨by rw [HF.out]; rfl, BB.out⟩
      · subst hk
        have hb2 : b = decide (op < (m : Int)) := by rw [hb]; simp [S.permits]
        by_cases ht : op < 0
        · obtain rfl : b = true := by rw [hb2]; simp; omega
          clear hb hb2 hm
          go_wp2_with fail
          go_roundg gO
          case measure => omega
          case rel => exact ⟨i + 1, by omega, by first | rfl | simp, by show S.holds _ _ _ _ = true; exact S.holds_take HC.out HH.out HB.out.symm, rfl⟩
        · have qt : IntKind.u64.wrap op = op := by have := HO.out.2; rw [IntKind.wrap_u64]; omega
          by_cases hlt : op < (m : Int)
          · obtain rfl : b = true := by rw [hb2]; simp; omega
            clear hb hb2 hm
            go_wp2_with fail
            go_roundg gO
            case measure => omega
            case rel => exact ⟨i + 1, by omega, by first | rfl | simp, by show S.holds _ _ _ _ = true; exact S.holds_take HC.out HH.out HB.out.symm, rfl⟩
          · obtain rfl : b = false := by rw [hb2]; simp; omega
            clear hb hb2 hm
            have HF := hide (show bb = false by rw [HBB.out]; exact S.holds_no (op := op) (tree := tree) (clock := clock) HC.out HB.out.symm)
            go_wp2_with fail
            go_ret
            exact ⟨by rw [HF.out]; rfl, BB.out⟩
      · subst hk
        have hb2 : b = decide ((clock : Int) < (m : Int)) := by rw [hb]; simp [S.permits]
        by_cases hlt : (clock : Int) < (m : Int)
        · obtain rfl : b = true := by rw [hb2]; simpa using hlt
          clear hb hb2 hm
          go_wp2_with fail
          go_roundg gO
          case measure => omega
          case rel => exact ⟨i + 1, by omega, by first | rfl | simp, by show S.holds _ _ _ _ = true; exact S.holds_take HC.out HH.out HB.out.symm, rfl⟩
        · obtain rfl : b = false := by rw [hb2]; simpa using hlt
          clear hb hb2 hm
          have HF := hide (show bb = false by rw [HBB.out]; exact S.holds_no (op := op) (tree := tree) (clock := clock) HC.out HB.out.symm)
          go_wp2_with fail
          go_ret
          exact ⟨by rw [HF.out]; rfl, BB.out⟩
      · obtain rfl : b = false := by rw [hb]; simp [S.permits, k1, k2, k3]
        have b1 : (k == 1) = false := by simp [k1]
        have b2 : (k == 2) = false := by simp [k2]
        have b3 : (k == 3) = false := by simp [k3]
        clear hb hm k1 k2 k3
        have HF := hide (show bb = false by rw [HBB.out]; exact S.holds_no (op := op) (tree := tree) (clock := clock) HC.out HB.out.symm)
        go_wp2_with fail
        go_ret
        exact ⟨by rw [HF.out]; rfl, BB.out⟩
end Go.Proofs.YtlcilclhaahopaaDoor
