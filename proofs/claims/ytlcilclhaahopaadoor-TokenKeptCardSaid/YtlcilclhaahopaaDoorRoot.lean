/- below of the document's own answer: is a number, squared or cubed, at most p; nothing that was there changes. -/
import Derived.Test.YtlcilclhaahopaaDoorProduct
import Derived.Test.YtlcilclhaahopaaDoorJoin
namespace Go.Proofs.YtlcilclhaahopaaDoor
open Go.RowKit
theorem q64_arr (l : List Nat) (j y : Nat) : (q64 l).setIfInBounds j (.int .u64 (y : Int)) = q64 (l.set j y) := by
  apply Array.ext'
  simp [q64, List.map_set]
theorem stillBelow2 {w W : World} (h : Still w W) (B n m : Nat) : Below B w ((W.drewN n).drewN m) := ⟨h.2.1, h.2.2.1, h.2.2.2, by show w.heap.size ≤ W.heap.size; rw [h.1]; exact Nat.le_refl _, fun k _ => by show W.heap[k]? = w.heap[k]?; rw [h.1]⟩
theorem stillCell {w W : World} (h : Still w W) {a : Addr} {v : Value} (hc : w.cell? a = some v) : W.cell? a = some v := (World.cell?_of_block (w := w) (by rw [h.1])).trans hc
theorem want_sq (p : Nat) : P.val (((List.replicate 8 0).set 4 (p % 65536)).set 5 (p / 65536)) = p * 65536 ^ 4 := by
  simp only [List.replicate_succ, List.replicate_zero, List.set_cons_succ, List.set_cons_zero, P.val]
  omega
set_option maxHeartbeats 2000000 in
set_option maxRecDepth 100000 in
theorem below_sq (x p : Nat) (hx : x < 18446744073709551616) (hp : p < 65536) (w : World) :
   Calls Tryd.prog 77 #[.int .u64 (x : Int), .int .u64 (p : Int), .bool false] w fun e w' => e = .returned (.bool (decide (x * x ≤ p * 65536 ^ 4))) ∧ Below w.heap.size w w' := by
  go_enter Tryd.func77, Tryd.ntmps77
  go_wp2_with fail
  refine (limbs_any x hx w).mono ?_
  rintro e0 w1 ⟨rfl, hnum, hb⟩
  have B1 := hide hb
  have NA1 := hide hnum
  clear hnum hb
  generalize w.heap.size = ga at NA1 ⊢
  go_wp2_with fail
  refine (times_4_4 _ _ (P.limbs x) (P.limbs x) rfl rfl w1 NA1.out NA1.out).mono ?_
  rintro e1 w2 ⟨lo, rfl, hnum2, hlen2, hval2, hb2⟩
  have hB2 := B1.out.trans (hb2.mono B1.out.size)
  have N0 := hide hnum2
  have L0 := hide hlen2
  have V0 : Hid (P.val lo = x * x) := by show P.val lo = x * x; rw [hval2, P.val_limbs]
  have B2 := hide hB2
  have NA := hide (NA1.out.below hb2)
  clear hnum2 hlen2 hval2 hb2 hB2 B1 NA1
  have hmk := make8
  have q8 := and_low p (by omega)
  go_wp2_with fail
  have N1 := N0
  have L1 := L0
  have V1 := V0
  have B3 := B2
  generalize w1.heap.size = gb at *
  generalize hW : World.alloc w2 _ = W3
  have e1 : ((p : Int) % 65536) = ((p % 65536 : Nat) : Int) := by omega
  have e2 : ((p : Int) / 65536) = ((p / 65536 : Nat) : Int) := by omega
  obtain ⟨wl, hwl⟩ : ∃ wl, wl = ((List.replicate 8 0).set 4 (p % 65536)).set 5 (p / 65536) := ⟨_, rfl⟩
  have RW : W3.heap[w2.heap.size]? = some (.cells (q64 wl) 46 (0, 0)) := by
    rw [← hW, e1, e2, hwl, heap_alloc_new, q64_arr, q64_arr]
    rfl
  have hb4 : Below w2.heap.size w2 W3 := by rw [← hW]; exact (Below.refl _ _).alloc (Nat.le_refl _) _
  have hwlen : wl.length = 8 := by rw [hwl]; simp
  have hwlt : ∀ y ∈ wl, y < 65536 := by
    rw [hwl]
    exact set_lt (set_lt (fun y hy => by rw [List.eq_of_mem_replicate hy]; omega) _ _ (by omega)) _ _ (by omega)
  have hwv : P.val wl = p * 65536 ^ 4 := by rw [hwl]; exact want_sq p
  have hNB := N1.out.below hb4
  have RB := hide hNB.1
  have RWH := hide RW
  have HLT := hide hNB.2
  have HWT := hide hwlt
  have HWL := hide hwlen
  have HWV := hide hwv
  have BF := hide (B3.out.trans (hb4.mono B3.out.size))
  clear hW e1 e2 hwl RW hb4 hwlen hwlt hwv hNB N1 B3 q8 hmk
  generalize w2.heap.size = gw at *
  go_loopw [11] (fun i wr => ∃ j : Nat, j ≤ 8 ∧ i = .int .i64 ((j : Int) - 1) ∧ (∀ t, j ≤ t → lo.getD t 0 = wl.getD t 0) ∧ Still W3 wr) (fun i _ => (intOf i + 1).toNat)
  case atStart =>
    refine ⟨8, by omega, rfl, fun t ht => ?_, Still.refl _⟩
    rw [List.getD_eq_getElem?_getD, List.getD_eq_getElem?_getD, List.getElem?_eq_none (by rw [L1.out]; omega), List.getElem?_eq_none (by rw [HWL.out]; omega)]
  case round =>
    obtain ⟨j, hj, rfl, hsame, hst⟩ := hrel
    have HS := hide hsame
    have ST := hide hst
    by_cases hj0 : 0 < j
    · obtain ⟨i, rfl⟩ : ∃ i, j = i + 1 := ⟨j - 1, by omega⟩
      have ei : ((i + 1 : Nat) : Int) - 1 = (i : Int) := by omega
      rw [ei]
      have c1 := stillCell hst (q64_cell RB.out i (by rw [L1.out]; omega))
      have c2 := stillCell hst (q64_cell RWH.out i (by rw [HWL.out]; omega))
      have q1 : (0 : Int) ≤ (i : Int) := by omega
      have q2 : (i : Int) < 8 := by omega
      have q3 : IntKind.i64.wrap ((i : Int) - 1) = (i : Int) - 1 := by rw [IntKind.wrap_i64]; omega
      have hsm : ∀ t, i < t → lo.getD t 0 = wl.getD t 0 := fun t ht => hsame t (by omega)
      have l1 := getD_lt HLT.out i
      have l2 := getD_lt HWT.out i
      by_cases heq : lo.getD i 0 = wl.getD i 0
      · have HS2 : Hid (∀ t, i ≤ t → lo.getD t 0 = wl.getD t 0) := fun t ht => by
          rcases Nat.eq_or_lt_of_le ht with h' | h'
          · rw [← h']; exact heq
          · exact hsm t h'
        rw [← heq] at c2
        clear hsame hst hsm heq l1 l2 ei
        generalize lo.getD i 0 = v at *
        go_wp2
        go_quiet (fail)
        go_wp2
        exact ⟨⟨i, by omega, rfl, HS2.out, ST.out⟩, by simp [intOf]⟩
      · have hne : ¬ ((lo.getD i 0 : Nat) : Int) = ((wl.getD i 0 : Nat) : Int) := by omega
        by_cases hlt : lo.getD i 0 < wl.getD i 0
        · have HR : Hid ((x * x ≤ p * 65536 ^ 4)) := by
            have := P.val_less lo wl i (by rw [L1.out, HWL.out]) (by rw [L1.out]; omega) HLT.out hsm hlt
            rw [V1.out, HWV.out] at this
            exact Nat.le_of_lt this
          have hlt' : ((lo.getD i 0 : Nat) : Int) < ((wl.getD i 0 : Nat) : Int) := by omega
          clear hsame hst hsm heq l1 l2 ei hlt
          generalize lo.getD i 0 = v at *
          generalize wl.getD i 0 = u at *
          go_wp2
          go_quiet (fail)
          go_wp2
          go_quiet (fail)
          go_wp2
          go_ret
          exact ⟨by show Ending.returned (Value.bool true) = _; rw [decide_eq_true HR.out], BF.out.trans (stillBelow2 ST.out _ _ _)⟩
        · have HR : Hid (¬ (x * x ≤ p * 65536 ^ 4)) := by
            have := P.val_less wl lo i (by rw [L1.out, HWL.out]) (by rw [HWL.out]; omega) HWT.out (fun t ht => (hsm t ht).symm) (by omega)
            rw [V1.out, HWV.out] at this
            exact Nat.not_le_of_lt this
          have hlt' : ¬ ((lo.getD i 0 : Nat) : Int) < ((wl.getD i 0 : Nat) : Int) := by omega
          clear hsame hst hsm heq l1 l2 ei hlt
          generalize lo.getD i 0 = v at *
          generalize wl.getD i 0 = u at *
          go_wp2
          go_quiet (fail)
          go_wp2
          go_quiet (fail)
          go_wp2
          go_ret
          exact ⟨by show Ending.returned (Value.bool (decide (v < u))) = _; rw [decide_eq_false (show ¬ v < u by omega), decide_eq_false HR.out], BF.out.trans (stillBelow2 ST.out _ _ _)⟩
    · obtain rfl : j = 0 := by omega
      have HR : Hid ((x * x ≤ p * 65536 ^ 4)) := by
        have := P.val_same lo wl (by rw [L1.out, HWL.out]) (fun t => hsame t (Nat.zero_le _))
        show x * x ≤ p * 65536 ^ 4
        rw [← V1.out, ← HWV.out, this]
        exact Nat.le_refl _
      clear hsame hst
      go_wp2
      go_ret
      exact ⟨by show Ending.returned (Value.bool true) = _; rw [decide_eq_true HR.out], BF.out.trans (Still.below (show Still W3 _ from ST.out) _)⟩
theorem want_cu (p : Nat) : P.val (((List.replicate 12 0).set 6 (p % 65536)).set 7 (p / 65536)) = p * 65536 ^ 6 := by
  simp only [List.replicate_succ, List.replicate_zero, List.set_cons_succ, List.set_cons_zero, P.val]
  omega
set_option maxHeartbeats 2000000 in
set_option maxRecDepth 100000 in
theorem below_cu (x p : Nat) (hx : x < 18446744073709551616) (hp : p < 65536) (w : World) :
   Calls Tryd.prog 77 #[.int .u64 (x : Int), .int .u64 (p : Int), .bool true] w fun e w' => e = .returned (.bool (decide (x * x * x ≤ p * 65536 ^ 6))) ∧ Below w.heap.size w w' := by
  go_enter Tryd.func77, Tryd.ntmps77
  go_wp2_with fail
  refine (limbs_any x hx w).mono ?_
  rintro e0 w1 ⟨rfl, hnum, hb⟩
  have B1 := hide hb
  have NA1 := hide hnum
  clear hnum hb
  generalize w.heap.size = ga at NA1 ⊢
  go_wp2_with fail
  refine (times_4_4 _ _ (P.limbs x) (P.limbs x) rfl rfl w1 NA1.out NA1.out).mono ?_
  rintro e1 w2 ⟨lo0, rfl, hnum2, hlen2, hval2, hb2⟩
  have hB2 := B1.out.trans (hb2.mono B1.out.size)
  have N0 := hide hnum2
  have L0 := hide hlen2
  have V0 : Hid (P.val lo0 = x * x) := by show P.val lo0 = x * x; rw [hval2, P.val_limbs]
  have B2 := hide hB2
  have NA := hide (NA1.out.below hb2)
  clear hnum2 hlen2 hval2 hb2 hB2 B1 NA1
  have hmk := make12
  have q8 := and_low p (by omega)
  go_wp2_with fail
  refine (times_8_4 _ _ lo0 (P.limbs x) L0.out rfl _ N0.out NA.out).mono ?_
  rintro e2 w3 ⟨lo, rfl, hnum3, hlen3, hval3, hb3⟩
  have hB3 := B2.out.trans (hb3.mono B2.out.size)
  have N1 := hide hnum3
  have L1 := hide hlen3
  have V1 : Hid (P.val lo = x * x * x) := by show P.val lo = x * x * x; rw [hval3, V0.out, P.val_limbs]
  have B3 := hide hB3
  clear hnum3 hlen3 hval3 hb3 hB3 N0 L0 V0 NA B2
  generalize w2.heap.size = gb at *
  go_wp2_with fail
  generalize hW : World.alloc w3 _ = W3
  have e1 : ((p : Int) % 65536) = ((p % 65536 : Nat) : Int) := by omega
  have e2 : ((p : Int) / 65536) = ((p / 65536 : Nat) : Int) := by omega
  obtain ⟨wl, hwl⟩ : ∃ wl, wl = ((List.replicate 12 0).set 6 (p % 65536)).set 7 (p / 65536) := ⟨_, rfl⟩
  have RW : W3.heap[w3.heap.size]? = some (.cells (q64 wl) 46 (0, 0)) := by
    rw [← hW, e1, e2, hwl, heap_alloc_new, q64_arr, q64_arr]
    rfl
  have hb4 : Below w3.heap.size w3 W3 := by rw [← hW]; exact (Below.refl _ _).alloc (Nat.le_refl _) _
  have hwlen : wl.length = 12 := by rw [hwl]; simp
  have hwlt : ∀ y ∈ wl, y < 65536 := by
    rw [hwl]
    exact set_lt (set_lt (fun y hy => by rw [List.eq_of_mem_replicate hy]; omega) _ _ (by omega)) _ _ (by omega)
  have hwv : P.val wl = p * 65536 ^ 6 := by rw [hwl]; exact want_cu p
  have hNB := N1.out.below hb4
  have RB := hide hNB.1
  have RWH := hide RW
  have HLT := hide hNB.2
  have HWT := hide hwlt
  have HWL := hide hwlen
  have HWV := hide hwv
  have BF := hide (B3.out.trans (hb4.mono B3.out.size))
  clear hW e1 e2 hwl RW hb4 hwlen hwlt hwv hNB N1 B3 q8 hmk
  generalize w3.heap.size = gw at *
  go_loopw [11] (fun i wr => ∃ j : Nat, j ≤ 12 ∧ i = .int .i64 ((j : Int) - 1) ∧ (∀ t, j ≤ t → lo.getD t 0 = wl.getD t 0) ∧ Still W3 wr) (fun i _ => (intOf i + 1).toNat)
  case atStart =>
    refine ⟨12, by omega, rfl, fun t ht => ?_, Still.refl _⟩
    rw [List.getD_eq_getElem?_getD, List.getD_eq_getElem?_getD, List.getElem?_eq_none (by rw [L1.out]; omega), List.getElem?_eq_none (by rw [HWL.out]; omega)]
  case round =>
    obtain ⟨j, hj, rfl, hsame, hst⟩ := hrel
    have HS := hide hsame
    have ST := hide hst
    by_cases hj0 : 0 < j
    · obtain ⟨i, rfl⟩ : ∃ i, j = i + 1 := ⟨j - 1, by omega⟩
      have ei : ((i + 1 : Nat) : Int) - 1 = (i : Int) := by omega
      rw [ei]
      have c1 := stillCell hst (q64_cell RB.out i (by rw [L1.out]; omega))
      have c2 := stillCell hst (q64_cell RWH.out i (by rw [HWL.out]; omega))
      have q1 : (0 : Int) ≤ (i : Int) := by omega
      have q2 : (i : Int) < 12 := by omega
      have q3 : IntKind.i64.wrap ((i : Int) - 1) = (i : Int) - 1 := by rw [IntKind.wrap_i64]; omega
      have hsm : ∀ t, i < t → lo.getD t 0 = wl.getD t 0 := fun t ht => hsame t (by omega)
      have l1 := getD_lt HLT.out i
      have l2 := getD_lt HWT.out i
      by_cases heq : lo.getD i 0 = wl.getD i 0
      · have HS2 : Hid (∀ t, i ≤ t → lo.getD t 0 = wl.getD t 0) := fun t ht => by
          rcases Nat.eq_or_lt_of_le ht with h' | h'
          · rw [← h']; exact heq
          · exact hsm t h'
        rw [← heq] at c2
        clear hsame hst hsm heq l1 l2 ei
        generalize lo.getD i 0 = v at *
        go_wp2
        go_quiet (fail)
        go_wp2
        exact ⟨⟨i, by omega, rfl, HS2.out, ST.out⟩, by simp [intOf]⟩
      · have hne : ¬ ((lo.getD i 0 : Nat) : Int) = ((wl.getD i 0 : Nat) : Int) := by omega
        by_cases hlt : lo.getD i 0 < wl.getD i 0
        · have HR : Hid ((x * x * x ≤ p * 65536 ^ 6)) := by
            have := P.val_less lo wl i (by rw [L1.out, HWL.out]) (by rw [L1.out]; omega) HLT.out hsm hlt
            rw [V1.out, HWV.out] at this
            exact Nat.le_of_lt this
          have hlt' : ((lo.getD i 0 : Nat) : Int) < ((wl.getD i 0 : Nat) : Int) := by omega
          clear hsame hst hsm heq l1 l2 ei hlt
          generalize lo.getD i 0 = v at *
          generalize wl.getD i 0 = u at *
          go_wp2
          go_quiet (fail)
          go_wp2
          go_quiet (fail)
          go_wp2
          go_ret
          exact ⟨by show Ending.returned (Value.bool true) = _; rw [decide_eq_true HR.out], BF.out.trans (stillBelow2 ST.out _ _ _)⟩
        · have HR : Hid (¬ (x * x * x ≤ p * 65536 ^ 6)) := by
            have := P.val_less wl lo i (by rw [L1.out, HWL.out]) (by rw [HWL.out]; omega) HWT.out (fun t ht => (hsm t ht).symm) (by omega)
            rw [V1.out, HWV.out] at this
            exact Nat.not_le_of_lt this
          have hlt' : ¬ ((lo.getD i 0 : Nat) : Int) < ((wl.getD i 0 : Nat) : Int) := by omega
          clear hsame hst hsm heq l1 l2 ei hlt
          generalize lo.getD i 0 = v at *
          generalize wl.getD i 0 = u at *
          go_wp2
          go_quiet (fail)
          go_wp2
          go_quiet (fail)
          go_wp2
          go_ret
          exact ⟨by show Ending.returned (Value.bool (decide (v < u))) = _; rw [decide_eq_false (show ¬ v < u by omega), decide_eq_false HR.out], BF.out.trans (stillBelow2 ST.out _ _ _)⟩
    · obtain rfl : j = 0 := by omega
      have HR : Hid ((x * x * x ≤ p * 65536 ^ 6)) := by
        have := P.val_same lo wl (by rw [L1.out, HWL.out]) (fun t => hsame t (Nat.zero_le _))
        show x * x * x ≤ p * 65536 ^ 6
        rw [← V1.out, ← HWV.out, this]
        exact Nat.le_refl _
      clear hsame hst
      go_wp2
      go_ret
      exact ⟨by show Ending.returned (Value.bool true) = _; rw [decide_eq_true HR.out], BF.out.trans (Still.below (show Still W3 _ from ST.out) _)⟩
end Go.Proofs.YtlcilclhaahopaaDoor
namespace Go.Proofs.YtlcilclhaahopaaDoor
open Go.RowKit
set_option maxHeartbeats 2000000 in
set_option maxRecDepth 100000 in
theorem root_sq (p r : Nat) (hp : p < 65536) (hr : r < 171798691840) (hroot : ∀ x : Nat, x * x ≤ p * 65536 ^ 4 ↔ x ≤ r) (w : World) :
   Calls Tryd.prog 54 #[.int .u64 (p : Int), .bool false] w fun e w' => e = .returned (.int .u32 ((r % 4294967296 : Nat) : Int)) ∧ Below w.heap.size w w' := by
  have HR := hide hroot
  clear hroot
  go_enter Tryd.func54, Tryd.ntmps54
  go_wp2
  go_loopw [5, 6] (fun lo hi wr => ∃ l h : Nat, lo = .int .u64 (l : Int) ∧ hi = .int .u64 (h : Int) ∧ l ≤ r ∧ r < h ∧ h ≤ 171798691840 ∧ Below w.heap.size w wr) (fun lo hi _ => (intOf hi - intOf lo).toNat)
  case atStart => exact ⟨0, 171798691840, rfl, rfl, by omega, hr, by omega, Below.refl _ _⟩
  case round =>
    obtain ⟨l, h, rfl, rfl, h1, h2, h3, hbl⟩ := hrel
    have BL := hide hbl
    clear hbl
    have q1 : IntKind.u64.wrap ((h : Int) - (l : Int)) = (h : Int) - (l : Int) := by rw [IntKind.wrap_u64]; omega
    by_cases hlt : 1 < h - l
    · have q2 : (1 : Int) < (h : Int) - (l : Int) := by omega
      have q3 : IntKind.u64.wrap ((l : Int) + (h : Int)) = (l : Int) + (h : Int) := by rw [IntKind.wrap_u64]; omega
      obtain ⟨m, hm⟩ : ∃ m, m = (l + h) / 2 := ⟨_, rfl⟩
      have Q4 : Hid (((l : Int) + (h : Int)) / 2 = (m : Int)) := by show ((l : Int) + (h : Int)) / 2 = (m : Int); omega
      go_wp2_with fail
      rw [Q4.out]
      refine (below_sq m p (by omega) hp _).mono ?_
      rintro e0 w1 ⟨rfl, hb1⟩
      have BL1 := hide (BL.out.trans (hb1.mono BL.out.size))
      clear hb1
      by_cases hmr : m ≤ r
      · rw [decide_eq_true ((HR.out m).2 hmr)]
        go_wp2_with fail
        go_roundw
        case rel => exact ⟨m, h, by rw [Q4.out], rfl, hmr, h2, h3, BL1.out⟩
        case measure => simp [intOf]; omega
      · rw [decide_eq_false (fun e => hmr ((HR.out m).1 e))]
        go_wp2_with fail
        go_roundw
        case rel => exact ⟨l, m, rfl, by rw [Q4.out], h1, by omega, by omega, BL1.out⟩
        case measure => simp [intOf]; omega
    · have q2 : ¬ ((1 : Int) < (h : Int) - (l : Int)) := by omega
      obtain rfl : r = l := by omega
      go_wp2
      go_ret
      exact ⟨by simp, BL.out⟩
set_option maxHeartbeats 2000000 in
set_option maxRecDepth 100000 in
theorem root_cu (p r : Nat) (hp : p < 65536) (hr : r < 171798691840) (hroot : ∀ x : Nat, x * x * x ≤ p * 65536 ^ 6 ↔ x ≤ r) (w : World) :
   Calls Tryd.prog 54 #[.int .u64 (p : Int), .bool true] w fun e w' => e = .returned (.int .u32 ((r % 4294967296 : Nat) : Int)) ∧ Below w.heap.size w w' := by
  have HR := hide hroot
  clear hroot
  go_enter Tryd.func54, Tryd.ntmps54
  go_wp2
  go_loopw [5, 6] (fun lo hi wr => ∃ l h : Nat, lo = .int .u64 (l : Int) ∧ hi = .int .u64 (h : Int) ∧ l ≤ r ∧ r < h ∧ h ≤ 171798691840 ∧ Below w.heap.size w wr) (fun lo hi _ => (intOf hi - intOf lo).toNat)
  case atStart => exact ⟨0, 171798691840, rfl, rfl, by omega, hr, by omega, Below.refl _ _⟩
  case round =>
    obtain ⟨l, h, rfl, rfl, h1, h2, h3, hbl⟩ := hrel
    have BL := hide hbl
    clear hbl
    have q1 : IntKind.u64.wrap ((h : Int) - (l : Int)) = (h : Int) - (l : Int) := by rw [IntKind.wrap_u64]; omega
    by_cases hlt : 1 < h - l
    · have q2 : (1 : Int) < (h : Int) - (l : Int) := by omega
      have q3 : IntKind.u64.wrap ((l : Int) + (h : Int)) = (l : Int) + (h : Int) := by rw [IntKind.wrap_u64]; omega
      obtain ⟨m, hm⟩ : ∃ m, m = (l + h) / 2 := ⟨_, rfl⟩
      have Q4 : Hid (((l : Int) + (h : Int)) / 2 = (m : Int)) := by show ((l : Int) + (h : Int)) / 2 = (m : Int); omega
      go_wp2_with fail
      rw [Q4.out]
      refine (below_cu m p (by omega) hp _).mono ?_
      rintro e0 w1 ⟨rfl, hb1⟩
      have BL1 := hide (BL.out.trans (hb1.mono BL.out.size))
      clear hb1
      by_cases hmr : m ≤ r
      · rw [decide_eq_true ((HR.out m).2 hmr)]
        go_wp2_with fail
        go_roundw
        case rel => exact ⟨m, h, by rw [Q4.out], rfl, hmr, h2, h3, BL1.out⟩
        case measure => simp [intOf]; omega
      · rw [decide_eq_false (fun e => hmr ((HR.out m).1 e))]
        go_wp2_with fail
        go_roundw
        case rel => exact ⟨l, m, rfl, by rw [Q4.out], h1, by omega, by omega, BL1.out⟩
        case measure => simp [intOf]; omega
    · have q2 : ¬ ((1 : Int) < (h : Int) - (l : Int)) := by omega
      obtain rfl : r = l := by omega
      go_wp2
      go_ret
      exact ⟨by simp, BL.out⟩
end Go.Proofs.YtlcilclhaahopaaDoor
