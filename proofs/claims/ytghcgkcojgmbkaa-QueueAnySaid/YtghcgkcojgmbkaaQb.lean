/- Where a value stands in a row. -/
import Derived.Test.YtghcgkcojgmbkaaQa
import Derived.StillTailTactics
namespace Go.Proofs.Ytghcgkcojgmbkaa
open Go.RowKit
theorem str_ne {x y : ByteArray} (h : x ≠ y) : (x.toList == y.toList) = false := by
  rw [ByteArray.toList_eq, ByteArray.toList_eq, beq_eq_false_iff_ne]
  exact fun e => h (by cases x; cases y; simp at e; rw [e])

theorem idleI (p : Addr) (w : World) :
    CallsD Try.prog 36 #[.pointer (some p)] .returning w fun e u' w' => e = .returned (.tuple #[]) ∧ u' = .returning ∧ w' = w := by
  refine callsD_of_wpS Try.func36 rfl fun c₀ cs hu => ?_
  apply wpS_seq
  apply wpS_region
  simp [wpOpsS, go_sem, recoverD, hu, Try.ntmps36, Exit.thenS]
  refine wpS_cond (t := false) (by simp [Act.eval, Array.replicate]) ?_
  simp only [Bool.false_eq_true, if_false]
  refine wpS_of_wp (wp_skip ?_)
  cases c₀
  simp_all [bodyPostS, results, Try.results36]

set_option maxHeartbeats 1600000 in
set_option maxRecDepth 100000 in
theorem indexI_any (B : Nat) (w : World) (v : Value) (xs : List Int) (x : Int) (h : Rw 3 1 encI B w v xs) (hl : xs.length ≤ 100000) :
   Calls Try.prog 37 #[v, .int .i64 x] w fun e w' => e = .returned (.int .i64 (S.idx xs x)) ∧ Still w w' := by
  have H := hide h
  obtain ⟨ao, cap, rfl⟩ := h.form
  clear h
  have HL := hide hl
  obtain ⟨n, hn⟩ : ∃ n, n = xs.length := ⟨_, rfl⟩
  rw [← hn]
  have HN := hide hn
  clear hn
  go_enter Try.func37, Try.ntmps37
  go_wp2
  go_loopw [8] (fun i wr => ∃ c : Nat, c ≤ n ∧ i = .int .i64 (c : Int) ∧ Still w wr ∧ Hid (∀ j, j < c → xs[j]? ≠ some x)) (fun i _ => n - (intOf i).toNat)
  case atStart => exact ⟨0, by omega, rfl, Still.refl _, fun j hj => by omega⟩
  case round =>
    obtain ⟨c, hc, rfl, hst, hno⟩ := hrel
    by_cases hlt : c < n
    · obtain ⟨y, hy⟩ : ∃ y, xs[c]? = some y := ⟨xs[c]'(by have := HN.out; omega), List.getElem?_eq_getElem (by have := HN.out; omega)⟩
      obtain ⟨g, cap', he, _, _, hr⟩ := H.out.at_ (lenI xs) c y hy
      simp only [Value.slice.injEq] at he
      obtain ⟨rfl, _, rfl⟩ := he
      have c1 : wr.cell? ⟨g, c, none⟩ = some (.int .i64 y) := by
        rw [← hr 0 _ rfl, Nat.mul_one, Nat.add_zero]
        exact World.cell?_of_block (by rw [hst.1])
      clear hr
      have q1 : (0 : Int) ≤ (c : Int) := by omega
      have q2 : (c : Int) < (n : Int) := by omega
      have q4 : IntKind.i64.wrap ((c : Int) + 1) = (c : Int) + 1 := by have := HL.out; have := HN.out; rw [IntKind.wrap_i64]; omega
      have ST := hide hst
      have HY := hide hy
      clear hst hy
      by_cases hxy : x = y
      · subst hxy
        have hfin : Hid (S.idx xs x = (c : Int)) := S.idx_found HY.out hno.out
        go_wp2
        go_ret
        exact ⟨by rw [hfin.out]; rfl, ST.out⟩
      · go_wp2
        go_roundw
        case rel => exact ⟨c + 1, by omega, by go_num, ST.out, fun j hj => by
          by_cases e : j = c
          · subst e; rw [HY.out]; intro e2; injection e2 with e2; exact hxy e2.symm
          · exact hno.out j (by omega)⟩
        case measure => simp [intOf]; omega
    · obtain rfl : c = n := by omega
      have hfin : Hid (S.idx xs x = -1) := S.idx_none (fun j hj => hno.out j (by have := HN.out; omega))
      go_wp2
      go_ret
      exact ⟨by rw [hfin.out]; rfl, hst⟩

set_option maxHeartbeats 1600000 in
set_option maxRecDepth 100000 in
theorem findI_any (B : Nat) (w : World) (v : Value) (xs : List Int) (x : Int) (h : Rw 3 1 encI B w v xs) (hl : xs.length ≤ 100000) :
   Calls Try.prog 28 #[v, .int .i64 x] w fun e w' => e = .returned (.int .i64 (S.idx xs x)) ∧ Below w.heap.size w w' := by
  have hmf : ∀ (fn : Fn) (first cap : Array Value) (w : World), (Instr.makeFunc fn first cap).run Try.prog w = .ok (.func fn first cap) w := fun _ _ _ _ => rfl
  have H := hide h
  obtain ⟨r, hr⟩ : ∃ r, r = S.idx xs x := ⟨_, rfl⟩
  have HR := hide hr
  clear h hr
  go_enter_defers Try.func28, Try.ntmps28
  go_wp2_with fail
  go_at_call 37
  refine (indexI_any B _ v xs x (H.out.below ((Below.refl _ _).alloc (Nat.le_refl _) _)) hl).mono ?_
  rintro e w1 ⟨rfl, hst⟩
  rw [← HR.out]
  have row1 : Hid (w1.heap[w.heap.size]? = some (.cells #[.int .i64 0] 3 (0, 0))) := by
    show w1.heap[w.heap.size]? = _
    rw [hst.1]; exact heap_alloc_new _ _
  have B1 : Hid (Below w.heap.size w w1) := ((Below.refl _ _).alloc (Nat.le_refl _) _).trans (hst.below _)
  clear hst
  have f0 := cells1 row1.out
  have z0 : w1.frozen? ⟨w.heap.size, 0, none⟩ = false := frozen_of_row w1 w.heap.size 0 _ _ row1.out
  go_wp2
  refine leaves_cons (f := 36) (args := #[.pointer (some ⟨w.heap.size, 0, none⟩)]) (by simp) (by simp [go_sem]) ?_
  refine (idleI ⟨w.heap.size, 0, none⟩ _).mono ?_
  rintro e u' w'' ⟨rfl, rfl, rfl⟩
  have c2 : (w1.setCell ⟨w.heap.size, 0, none⟩ (.int .i64 r)).cell? ⟨w.heap.size, 0, none⟩ = some (.int .i64 r) := World.cell?_setCell_same _ _ _ f0
  have B2 : Hid (Below w.heap.size w (w1.setCell ⟨w.heap.size, 0, none⟩ (.int .i64 r))) := B1.out.trans ((Below.refl _ _).setCell (p := ⟨w.heap.size, 0, none⟩) (Nat.le_refl _) _)
  rw [HR.out] at c2 B2
  simp [Leaves, settle, results, Try.results28, go_sem, c2, HR.out, B2.out]

theorem idleS (p : Addr) (w : World) :
    CallsD Try.prog 40 #[.pointer (some p)] .returning w fun e u' w' => e = .returned (.tuple #[]) ∧ u' = .returning ∧ w' = w := by
  refine callsD_of_wpS Try.func40 rfl fun c₀ cs hu => ?_
  apply wpS_seq
  apply wpS_region
  simp [wpOpsS, go_sem, recoverD, hu, Try.ntmps40, Exit.thenS]
  refine wpS_cond (t := false) (by simp [Act.eval, Array.replicate]) ?_
  simp only [Bool.false_eq_true, if_false]
  refine wpS_of_wp (wp_skip ?_)
  cases c₀
  simp_all [bodyPostS, results, Try.results40]

set_option maxHeartbeats 1600000 in
set_option maxRecDepth 100000 in
theorem indexS_any (B : Nat) (w : World) (v : Value) (xs : List ByteArray) (x : ByteArray) (h : Rw 9 1 encS B w v xs) (hl : xs.length ≤ 100000) :
   Calls Try.prog 41 #[v, .string x] w fun e w' => e = .returned (.int .i64 (S.idx xs x)) ∧ Still w w' := by
  have H := hide h
  obtain ⟨ao, cap, rfl⟩ := h.form
  clear h
  have HL := hide hl
  obtain ⟨n, hn⟩ : ∃ n, n = xs.length := ⟨_, rfl⟩
  rw [← hn]
  have HN := hide hn
  clear hn
  go_enter Try.func41, Try.ntmps41
  go_wp2
  go_loopw [8] (fun i wr => ∃ c : Nat, c ≤ n ∧ i = .int .i64 (c : Int) ∧ Still w wr ∧ Hid (∀ j, j < c → xs[j]? ≠ some x)) (fun i _ => n - (intOf i).toNat)
  case atStart => exact ⟨0, by omega, rfl, Still.refl _, fun j hj => by omega⟩
  case round =>
    obtain ⟨c, hc, rfl, hst, hno⟩ := hrel
    by_cases hlt : c < n
    · obtain ⟨y, hy⟩ : ∃ y, xs[c]? = some y := ⟨xs[c]'(by have := HN.out; omega), List.getElem?_eq_getElem (by have := HN.out; omega)⟩
      obtain ⟨g, cap', he, _, _, hr⟩ := H.out.at_ (lenS xs) c y hy
      simp only [Value.slice.injEq] at he
      obtain ⟨rfl, _, rfl⟩ := he
      have c1 : wr.cell? ⟨g, c, none⟩ = some (.string y) := by
        rw [← hr 0 _ rfl, Nat.mul_one, Nat.add_zero]
        exact World.cell?_of_block (by rw [hst.1])
      clear hr
      have q1 : (0 : Int) ≤ (c : Int) := by omega
      have q2 : (c : Int) < (n : Int) := by omega
      have q4 : IntKind.i64.wrap ((c : Int) + 1) = (c : Int) + 1 := by have := HL.out; have := HN.out; rw [IntKind.wrap_i64]; omega
      have ST := hide hst
      have HY := hide hy
      clear hst hy
      by_cases hxy : x = y
      · subst hxy
        have hfin : Hid (S.idx xs x = (c : Int)) := S.idx_found HY.out hno.out
        go_wp2
        go_ret
        exact ⟨by rw [hfin.out]; rfl, ST.out⟩
      · have hne := str_ne hxy
        go_wp2
        go_roundw
        case rel => exact ⟨c + 1, by omega, by go_num, ST.out, fun j hj => by
          by_cases e : j = c
          · subst e; rw [HY.out]; intro e2; injection e2 with e2; exact hxy e2.symm
          · exact hno.out j (by omega)⟩
        case measure => simp [intOf]; omega
    · obtain rfl : c = n := by omega
      have hfin : Hid (S.idx xs x = -1) := S.idx_none (fun j hj => hno.out j (by have := HN.out; omega))
      go_wp2
      go_ret
      exact ⟨by rw [hfin.out]; rfl, hst⟩

set_option maxHeartbeats 1600000 in
set_option maxRecDepth 100000 in
theorem findS_any (B : Nat) (w : World) (v : Value) (xs : List ByteArray) (x : ByteArray) (h : Rw 9 1 encS B w v xs) (hl : xs.length ≤ 100000) :
   Calls Try.prog 38 #[v, .string x] w fun e w' => e = .returned (.int .i64 (S.idx xs x)) ∧ Below w.heap.size w w' := by
  have hmf : ∀ (fn : Fn) (first cap : Array Value) (w : World), (Instr.makeFunc fn first cap).run Try.prog w = .ok (.func fn first cap) w := fun _ _ _ _ => rfl
  have H := hide h
  obtain ⟨r, hr⟩ : ∃ r, r = S.idx xs x := ⟨_, rfl⟩
  have HR := hide hr
  clear h hr
  go_enter_defers Try.func38, Try.ntmps38
  go_wp2_with fail
  go_at_call 41
  refine (indexS_any B _ v xs x (H.out.below ((Below.refl _ _).alloc (Nat.le_refl _) _)) hl).mono ?_
  rintro e w1 ⟨rfl, hst⟩
  rw [← HR.out]
  have row1 : Hid (w1.heap[w.heap.size]? = some (.cells #[.int .i64 0] 3 (0, 0))) := by
    show w1.heap[w.heap.size]? = _
    rw [hst.1]; exact heap_alloc_new _ _
  have B1 : Hid (Below w.heap.size w w1) := ((Below.refl _ _).alloc (Nat.le_refl _) _).trans (hst.below _)
  clear hst
  have f0 := cells1 row1.out
  have z0 : w1.frozen? ⟨w.heap.size, 0, none⟩ = false := frozen_of_row w1 w.heap.size 0 _ _ row1.out
  go_wp2
  refine leaves_cons (f := 40) (args := #[.pointer (some ⟨w.heap.size, 0, none⟩)]) (by simp) (by simp [go_sem]) ?_
  refine (idleS ⟨w.heap.size, 0, none⟩ _).mono ?_
  rintro e u' w'' ⟨rfl, rfl, rfl⟩
  have c2 : (w1.setCell ⟨w.heap.size, 0, none⟩ (.int .i64 r)).cell? ⟨w.heap.size, 0, none⟩ = some (.int .i64 r) := World.cell?_setCell_same _ _ _ f0
  have B2 : Hid (Below w.heap.size w (w1.setCell ⟨w.heap.size, 0, none⟩ (.int .i64 r))) := B1.out.trans ((Below.refl _ _).setCell (p := ⟨w.heap.size, 0, none⟩) (Nat.le_refl _) _)
  rw [HR.out] at c2 B2
  simp [Leaves, settle, results, Try.results38, go_sem, c2, HR.out, B2.out]

end Go.Proofs.Ytghcgkcojgmbkaa
