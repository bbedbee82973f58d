/- Stays: each list of a book is as it was: true; nothing changes. -/
import Derived.Test.YtlcilclhaahopaaDoorKe
namespace Go.Proofs.YtlcilclhaahopaaDoor
namespace Dg
open Go.RowKit
theorem getD_map {α : Type} {es : List α} (f : α → Value) {k : Nat} (h : k < es.length) : (es.map f).getD k default = f es[k] := by
  rw [List.getD_eq_getElem?_getD, List.getElem?_map, List.getElem?_eq_getElem h]; rfl
set_option maxHeartbeats 4000000 in
set_option maxRecDepth 100000 in
theorem stays_any (gB base top : Nat) (vl vw : Value) (es : List Entry) (w : World) (hbk : BookIs w gB base top vl vw es) :
   Calls Tryd.prog 63 #[.pointer (some ⟨gB, 0, none⟩)] w fun e w' => e = .returned (.bool true) ∧ Still w w' := by
  obtain ⟨aol, cl, hvl⟩ := hbk.lists.shape
  obtain ⟨aow, cw, hvw⟩ := hbk.was.shape
  rw [List.length_map] at hvl hvw
  subst hvl hvw
  obtain ⟨n, hn⟩ : ∃ n, n = es.length := ⟨_, rfl⟩
  have hnb : n ≤ 100 := by rw [hn]; exact hbk.few
  have HN := hide hn
  have HBK := hide hbk
  clear hbk
  rw [← hn] at HBK
  clear hn
  go_enter Tryd.func63, Tryd.ntmps63
  go_wp2
  go_loopw [3] (fun i wr => ∃ k : Nat, k ≤ n ∧ i = .int .i64 (k : Int) ∧ Still w wr) (fun i _ => n - (intOf i).toNat)
  case atStart => exact ⟨0, by omega, rfl, Still.refl _⟩
  case round =>
    obtain ⟨k, hk, rfl, hst⟩ := hrel
    have hbk := HBK.out.still hst
    have ROW := hide hbk.row
    have c4 := cells4 hbk.row
    obtain ⟨c0, c1, c2, c3⟩ := c4
    have ST := hide hst
    by_cases hlt : k < n
    · have hke : k < es.length := by have := HN.out; omega
      obtain ⟨gl, ol, cl', hx, hcl, hcell⟩ := hbk.lists.at k (by rw [List.length_map]; exact hke)
      obtain ⟨gw, ow, cw', hy, hcw, hcelw⟩ := hbk.was.at k (by rw [List.length_map]; exact hke)
      rw [getD_map _ hke] at hcell hcelw
      simp only [Value.slice.injEq, List.length_map] at hx hy hcl hcw
      obtain ⟨rfl, _, rfl⟩ := hx
      obtain ⟨rfl, _, rfl⟩ := hy
      have hen := hbk.ents es[k] (List.getElem_mem hke)
      obtain ⟨e, he⟩ : ∃ e, e = es[k] := ⟨_, rfl⟩
      rw [← he] at hcell hcelw hen
      have hbs : e.bs.length ≤ 1000 := hen.2.2.2.2.2.2.2.2.2
      obtain ⟨aou, cu, hus⟩ := hen.2.2.2.2.2.2.1.shape
      have d1 : wr.cell? ⟨gl, ol + k, none⟩ = some (.slice (some ⟨e.g, 0, none⟩) e.bs.length e.cap) := hcell
      have d2 : wr.cell? ⟨gw, ow + k, none⟩ = some (.slice aou e.bs.length cu) := by rw [← hus]; exact hcelw
      have S1 := hide (hen.1.sliceAt hbs)
      have S2 : Hid (CvAt wr (.slice aou e.bs.length cu) e.bs) := by rw [← hus]; exact hen.2.2.2.2.2.2.1.sliceAt hbs
      have HBS := hide hbs
      have q1 : (0 : Int) ≤ (k : Int) := by omega
      have q2 : (k : Int) < (n : Int) := by omega
      have q4 : IntKind.i64.wrap ((k : Int) + 1) = (k : Int) + 1 := by rw [IntKind.wrap_i64]; omega
      clear hbk hst hcell hcelw hen hus hcl hcw he hke
      go_wp2
      refine wp_region_noPanic ?_
      refine wp_region_held_drew (S := (fun w' => Still wr w')) follows ((Still.refl _).drew) (fun hHeld => ?_)
      refine wpAnyH_take (i := 0) (oi := { dst := some 13, op := Op.move (Operand.tmp 0), type := 116, pos := "book.go:40", after := #[], guard := none }) (v := ?_) rfl (by kernel_rfl) (by kernel_rfl) (by kernel_rfl) (fun _ _ _ h => h) (Or.inl ⟨by rfl, ?_⟩) (by assumption) ?_
      rotate_left
      · intro w hSw
        clear hSw
        go_simp
        all_goals with_reducible rfl
      simp only [Act.put, List.setIfInBounds_toArray, List.set_cons_zero, List.set_cons_succ]
      refine wpAnyH_take (i := 1) (oi := { dst := some 14, op := Op.move (Operand.tmp 0), type := 116, pos := "book.go:40", after := #[], guard := none }) (v := ?_) rfl (by kernel_rfl) (by kernel_rfl) (by kernel_rfl) (fun _ _ _ h => h) (Or.inl ⟨by rfl, ?_⟩) (by assumption) ?_
      rotate_left
      · intro w hSw
        clear hSw
        go_simp
        all_goals with_reducible rfl
      simp only [Act.put, List.setIfInBounds_toArray, List.set_cons_zero, List.set_cons_succ]
      refine wpAnyH_take (i := 2) (oi := { dst := some 15, op := Op.nilCheck (Operand.tmp 14), type := 0, pos := "book.go:40", after := #[{ on := 1, ground := Ground.data }], guard := none }) (v := ?_) rfl (by kernel_rfl) (by kernel_rfl) (by kernel_rfl) (fun _ _ _ h => h) (Or.inl ⟨by rfl, ?_⟩) (by assumption) ?_
      rotate_left
      · intro w hSw
        clear hSw
        go_simp
        all_goals with_reducible rfl
      simp only [Act.put, List.setIfInBounds_toArray, List.set_cons_zero, List.set_cons_succ]
      refine wpAnyH_take (i := 3) (oi := { dst := some 16, op := Op.fieldAddr 69 (Operand.tmp 15) 3, type := 0, pos := "book.go:40", after := #[{ on := 2, ground := Ground.data }], guard := none }) (v := ?_) rfl (by kernel_rfl) (by kernel_rfl) (by kernel_rfl) (fun _ _ _ h => h) (Or.inl ⟨by rfl, ?_⟩) (by assumption) ?_
      rotate_left
      · intro w hSw
        clear hSw
        go_simp
        all_goals with_reducible rfl
      simp only [Act.put, List.setIfInBounds_toArray, List.set_cons_zero, List.set_cons_succ]
      refine wpAnyH_take (i := 4) (oi := { dst := some 17, op := Op.load 4 (Operand.tmp 16), type := 4, pos := "book.go:40", after := #[{ on := 3, ground := Ground.data }], guard := none }) (v := ?_) rfl (by kernel_rfl) (by kernel_rfl) (by kernel_rfl) (fun _ _ _ h => h) (Or.inl ⟨by rfl, ?_⟩) (by assumption) ?_
      rotate_left
      · intro w hSw
        have h3 := Still.cell hSw c3
        clear hSw
        go_simp
        all_goals with_reducible rfl
      simp only [Act.put, List.setIfInBounds_toArray, List.set_cons_zero, List.set_cons_succ]
      refine wpAnyH_take (i := 5) (oi := { dst := some 18, op := Op.move (Operand.tmp 17), type := 4, pos := "book.go:40", after := #[{ on := 4, ground := Ground.data }], guard := none }) (v := ?_) rfl (by kernel_rfl) (by kernel_rfl) (by kernel_rfl) (fun _ _ _ h => h) (Or.inl ⟨by rfl, ?_⟩) (by assumption) ?_
      rotate_left
      · intro w hSw
        clear hSw
        go_simp
        all_goals with_reducible rfl
      simp only [Act.put, List.setIfInBounds_toArray, List.set_cons_zero, List.set_cons_succ]
      refine wpAnyH_take (i := 6) (oi := { dst := some 19, op := Op.move (Operand.tmp 0), type := 116, pos := "book.go:40", after := #[{ on := 5, ground := Ground.guard }], guard := some (5, false) }) (v := ?_) rfl (by kernel_rfl) (by kernel_rfl) (by kernel_rfl) (fun _ _ _ h => h) (Or.inl ⟨by rfl, ?_⟩) (by assumption) ?_
      rotate_left
      · intro w hSw
        clear hSw
        go_simp
        all_goals with_reducible rfl
      simp only [Act.put, List.setIfInBounds_toArray, List.set_cons_zero, List.set_cons_succ]
      refine wpAnyH_take (i := 7) (oi := { dst := some 20, op := Op.nilCheck (Operand.tmp 19), type := 0, pos := "book.go:40", after := #[{ on := 6, ground := Ground.data }, { on := 5, ground := Ground.guard }], guard := some (5, false) }) (v := ?_) rfl (by kernel_rfl) (by kernel_rfl) (by kernel_rfl) (fun _ _ _ h => h) (Or.inl ⟨by rfl, ?_⟩) (by assumption) ?_
      rotate_left
      · intro w hSw
        clear hSw
        go_simp
        all_goals with_reducible rfl
      simp only [Act.put, List.setIfInBounds_toArray, List.set_cons_zero, List.set_cons_succ]
      refine wpAnyH_take (i := 8) (oi := { dst := some 21, op := Op.fieldAddr 69 (Operand.tmp 20) 0, type := 0, pos := "book.go:40", after := #[{ on := 7, ground := Ground.data }, { on := 5, ground := Ground.guard }], guard := some (5, false) }) (v := ?_) rfl (by kernel_rfl) (by kernel_rfl) (by kernel_rfl) (fun _ _ _ h => h) (Or.inl ⟨by rfl, ?_⟩) (by assumption) ?_
      rotate_left
      · intro w hSw
        clear hSw
        go_simp
        all_goals with_reducible rfl
      simp only [Act.put, List.setIfInBounds_toArray, List.set_cons_zero, List.set_cons_succ]
      refine wpAnyH_take (i := 9) (oi := { dst := some 22, op := Op.load 67 (Operand.tmp 21), type := 67, pos := "book.go:40", after := #[{ on := 8, ground := Ground.data }, { on := 5, ground := Ground.guard }], guard := some (5, false) }) (v := ?_) rfl (by kernel_rfl) (by kernel_rfl) (by kernel_rfl) (fun _ _ _ h => h) (Or.inl ⟨by rfl, ?_⟩) (by assumption) ?_
      rotate_left
      · intro w hSw
        have h3 := Still.cell hSw c0
        clear hSw
        go_simp
        all_goals with_reducible rfl
      simp only [Act.put, List.setIfInBounds_toArray, List.set_cons_zero, List.set_cons_succ]
      refine wpAnyH_take (i := 10) (oi := { dst := some 23, op := Op.move (Operand.tmp 3), type := 3, pos := "book.go:40", after := #[{ on := 5, ground := Ground.guard }], guard := some (5, false) }) (v := ?_) rfl (by kernel_rfl) (by kernel_rfl) (by kernel_rfl) (fun _ _ _ h => h) (Or.inl ⟨by rfl, ?_⟩) (by assumption) ?_
      rotate_left
      · intro w hSw
        clear hSw
        go_simp
        all_goals with_reducible rfl
      simp only [Act.put, List.setIfInBounds_toArray, List.set_cons_zero, List.set_cons_succ]
      refine wpAnyH_take (i := 11) (oi := { dst := some 24, op := Op.indexAddr 67 (Operand.tmp 22) (Operand.tmp 23), type := 0, pos := "book.go:40", after := #[{ on := 9, ground := Ground.data }, { on := 10, ground := Ground.data }, { on := 5, ground := Ground.guard }], guard := some (5, false) }) (v := ?_) rfl (by kernel_rfl) (by kernel_rfl) (by kernel_rfl) (fun _ _ _ h => h) (Or.inl ⟨by rfl, ?_⟩) (by assumption) ?_
      rotate_left
      · intro w hSw
        clear hSw
        go_simp
        all_goals with_reducible rfl
      simp only [Act.put, List.setIfInBounds_toArray, List.set_cons_zero, List.set_cons_succ]
      refine wpAnyH_take (i := 12) (oi := { dst := some 25, op := Op.load 23 (Operand.tmp 24), type := 23, pos := "book.go:40", after := #[{ on := 11, ground := Ground.data }, { on := 5, ground := Ground.guard }], guard := some (5, false) }) (v := ?_) rfl (by kernel_rfl) (by kernel_rfl) (by kernel_rfl) (fun _ _ _ h => h) (Or.inl ⟨by rfl, ?_⟩) (by assumption) ?_
      rotate_left
      · intro w hSw
        have h3 := Still.cell hSw d1
        clear hSw
        go_simp
        all_goals with_reducible rfl
      simp only [Act.put, List.setIfInBounds_toArray, List.set_cons_zero, List.set_cons_succ]
      refine wpAnyH_take (i := 13) (oi := { dst := some 26, op := Op.move (Operand.tmp 0), type := 116, pos := "book.go:40", after := #[{ on := 5, ground := Ground.guard }], guard := some (5, false) }) (v := ?_) rfl (by kernel_rfl) (by kernel_rfl) (by kernel_rfl) (fun _ _ _ h => h) (Or.inl ⟨by rfl, ?_⟩) (by assumption) ?_
      rotate_left
      · intro w hSw
        clear hSw
        go_simp
        all_goals with_reducible rfl
      simp only [Act.put, List.setIfInBounds_toArray, List.set_cons_zero, List.set_cons_succ]
      refine wpAnyH_take (i := 14) (oi := { dst := some 27, op := Op.nilCheck (Operand.tmp 26), type := 0, pos := "book.go:40", after := #[{ on := 13, ground := Ground.data }, { on := 5, ground := Ground.guard }], guard := some (5, false) }) (v := ?_) rfl (by kernel_rfl) (by kernel_rfl) (by kernel_rfl) (fun _ _ _ h => h) (Or.inl ⟨by rfl, ?_⟩) (by assumption) ?_
      rotate_left
      · intro w hSw
        clear hSw
        go_simp
        all_goals with_reducible rfl
      simp only [Act.put, List.setIfInBounds_toArray, List.set_cons_zero, List.set_cons_succ]
      refine wpAnyH_take (i := 15) (oi := { dst := some 28, op := Op.fieldAddr 69 (Operand.tmp 27) 1, type := 0, pos := "book.go:40", after := #[{ on := 14, ground := Ground.data }, { on := 5, ground := Ground.guard }], guard := some (5, false) }) (v := ?_) rfl (by kernel_rfl) (by kernel_rfl) (by kernel_rfl) (fun _ _ _ h => h) (Or.inl ⟨by rfl, ?_⟩) (by assumption) ?_
      rotate_left
      · intro w hSw
        clear hSw
        go_simp
        all_goals with_reducible rfl
      simp only [Act.put, List.setIfInBounds_toArray, List.set_cons_zero, List.set_cons_succ]
      refine wpAnyH_take (i := 16) (oi := { dst := some 29, op := Op.load 67 (Operand.tmp 28), type := 67, pos := "book.go:40", after := #[{ on := 15, ground := Ground.data }, { on := 5, ground := Ground.guard }], guard := some (5, false) }) (v := ?_) rfl (by kernel_rfl) (by kernel_rfl) (by kernel_rfl) (fun _ _ _ h => h) (Or.inl ⟨by rfl, ?_⟩) (by assumption) ?_
      rotate_left
      · intro w hSw
        have h3 := Still.cell hSw c1
        clear hSw
        go_simp
        all_goals with_reducible rfl
      simp only [Act.put, List.setIfInBounds_toArray, List.set_cons_zero, List.set_cons_succ]
      refine wpAnyH_take (i := 17) (oi := { dst := some 30, op := Op.move (Operand.tmp 3), type := 3, pos := "book.go:40", after := #[{ on := 5, ground := Ground.guard }], guard := some (5, false) }) (v := ?_) rfl (by kernel_rfl) (by kernel_rfl) (by kernel_rfl) (fun _ _ _ h => h) (Or.inl ⟨by rfl, ?_⟩) (by assumption) ?_
      rotate_left
      · intro w hSw
        clear hSw
        go_simp
        all_goals with_reducible rfl
      simp only [Act.put, List.setIfInBounds_toArray, List.set_cons_zero, List.set_cons_succ]
      refine wpAnyH_take (i := 18) (oi := { dst := some 31, op := Op.indexAddr 67 (Operand.tmp 29) (Operand.tmp 30), type := 0, pos := "book.go:40", after := #[{ on := 16, ground := Ground.data }, { on := 17, ground := Ground.data }, { on := 5, ground := Ground.guard }], guard := some (5, false) }) (v := ?_) rfl (by kernel_rfl) (by kernel_rfl) (by kernel_rfl) (fun _ _ _ h => h) (Or.inl ⟨by rfl, ?_⟩) (by assumption) ?_
      rotate_left
      · intro w hSw
        clear hSw
        go_simp
        all_goals with_reducible rfl
      simp only [Act.put, List.setIfInBounds_toArray, List.set_cons_zero, List.set_cons_succ]
      refine wpAnyH_take (i := 19) (oi := { dst := some 32, op := Op.load 23 (Operand.tmp 31), type := 23, pos := "book.go:40", after := #[{ on := 18, ground := Ground.data }, { on := 5, ground := Ground.guard }], guard := some (5, false) }) (v := ?_) rfl (by kernel_rfl) (by kernel_rfl) (by kernel_rfl) (fun _ _ _ h => h) (Or.inl ⟨by rfl, ?_⟩) (by assumption) ?_
      rotate_left
      · intro w hSw
        have h3 := Still.cell hSw d2
        clear hSw
        go_simp
        all_goals with_reducible rfl
      simp only [Act.put, List.setIfInBounds_toArray, List.set_cons_zero, List.set_cons_succ]
      refine wpAnyH_ready (rs := [20]) (by kernel_rfl) (by simp) ?_
      refine AllReadyH.cons (o := { dst := some 33, op := Op.call { callee := Callee.value (Operand.func 48), args := #[Operand.tmp 25, Operand.tmp 32], argTypes := #[23, 23] }, type := 4, pos := "book.go:40", after := #[{ on := 12, ground := Ground.data }, { on := 19, ground := Ground.data }, { on := 5, ground := Ground.chain }, { on := 5, ground := Ground.guard }], guard := some (5, false) }) rfl (fun K hK => ?_) AllReadyH.nil
      go_simp
      refine (same_any _ _ e.bs _ HBS.out (S1.out.of_heap hHeld.1) (S2.out.of_heap hHeld.1)).mono ?_
      rintro e' w5 ⟨rfl, hst⟩
      have hk := Still.trans hHeld hst
      clear hst hHeld
      go_wp2_with fail
      refine hK.out _ _ ?_ (fun hHeld => ?_)
      · exact hk
      clear hK K hk
      try simp only [Act.put, List.setIfInBounds_toArray, List.set_cons_zero, List.set_cons_succ]
      refine wpAnyH_take (i := 21) (oi := { dst := some 34, op := Op.unOp UnOp.not 4 (Operand.tmp 33), type := 4, pos := "book.go:40", after := #[{ on := 20, ground := Ground.data }, { on := 5, ground := Ground.guard }], guard := some (5, false) }) (v := ?_) rfl (by kernel_rfl) (by kernel_rfl) (by kernel_rfl) (fun _ _ _ h => h) (Or.inl ⟨by rfl, ?_⟩) (by assumption) ?_
      rotate_left
      · intro w hSw
        clear hSw
        go_simp
        all_goals with_reducible rfl
      simp only [Act.put, List.setIfInBounds_toArray, List.set_cons_zero, List.set_cons_succ]
      refine wpAnyH_take (i := 22) (oi := { dst := some 35, op := Op.pick (Operand.tmp 18) (Operand.const (Value.bool true)) (Operand.tmp 34), type := 4, pos := "book.go:40", after := #[{ on := 5, ground := Ground.data }, { on := 21, ground := Ground.data }], guard := none }) (v := ?_) rfl (by kernel_rfl) (by kernel_rfl) (by kernel_rfl) (fun _ _ _ h => h) (Or.inl ⟨by rfl, ?_⟩) (by assumption) ?_
      rotate_left
      · intro w hSw
        clear hSw
        go_simp
        all_goals with_reducible rfl
      simp only [Act.put, List.setIfInBounds_toArray, List.set_cons_zero, List.set_cons_succ]
      refine wpAnyH_take (i := 23) (oi := { dst := some 36, op := Op.nilCheck (Operand.tmp 13), type := 0, pos := "book.go:40", after := #[{ on := 0, ground := Ground.data }, { on := 0, ground := Ground.phase }, { on := 1, ground := Ground.phase }, { on := 2, ground := Ground.phase }, { on := 3, ground := Ground.phase }, { on := 4, ground := Ground.phase }, { on := 5, ground := Ground.phase }, { on := 6, ground := Ground.phase }, { on := 7, ground := Ground.phase }, { on := 8, ground := Ground.phase }, { on := 9, ground := Ground.phase }, { on := 10, ground := Ground.phase }, { on := 11, ground := Ground.phase }, { on := 12, ground := Ground.phase }, { on := 13, ground := Ground.phase }, { on := 14, ground := Ground.phase }, { on := 15, ground := Ground.phase }, { on := 16, ground := Ground.phase }, { on := 17, ground := Ground.phase }, { on := 18, ground := Ground.phase }, { on := 19, ground := Ground.phase }, { on := 20, ground := Ground.phase }, { on := 21, ground := Ground.phase }, { on := 22, ground := Ground.phase }], guard := none }) (v := ?_) rfl (by kernel_rfl) (by kernel_rfl) (by kernel_rfl) (fun _ _ _ h => h) (Or.inl ⟨by rfl, ?_⟩) (by assumption) ?_
      rotate_left
      · intro w hSw
        clear hSw
        go_simp
        all_goals with_reducible rfl
      simp only [Act.put, List.setIfInBounds_toArray, List.set_cons_zero, List.set_cons_succ]
      refine wpAnyH_take (i := 24) (oi := { dst := some 37, op := Op.fieldAddr 69 (Operand.tmp 36) 3, type := 0, pos := "book.go:40", after := #[{ on := 23, ground := Ground.data }, { on := 0, ground := Ground.phase }, { on := 1, ground := Ground.phase }, { on := 2, ground := Ground.phase }, { on := 3, ground := Ground.phase }, { on := 4, ground := Ground.phase }, { on := 5, ground := Ground.phase }, { on := 6, ground := Ground.phase }, { on := 7, ground := Ground.phase }, { on := 8, ground := Ground.phase }, { on := 9, ground := Ground.phase }, { on := 10, ground := Ground.phase }, { on := 11, ground := Ground.phase }, { on := 12, ground := Ground.phase }, { on := 13, ground := Ground.phase }, { on := 14, ground := Ground.phase }, { on := 15, ground := Ground.phase }, { on := 16, ground := Ground.phase }, { on := 17, ground := Ground.phase }, { on := 18, ground := Ground.phase }, { on := 19, ground := Ground.phase }, { on := 20, ground := Ground.phase }, { on := 21, ground := Ground.phase }, { on := 22, ground := Ground.phase }], guard := none }) (v := ?_) rfl (by kernel_rfl) (by kernel_rfl) (by kernel_rfl) (fun _ _ _ h => h) (Or.inl ⟨by rfl, ?_⟩) (by assumption) ?_
      rotate_left
      · intro w hSw
        clear hSw
        go_simp
        all_goals with_reducible rfl
      simp only [Act.put, List.setIfInBounds_toArray, List.set_cons_zero, List.set_cons_succ]
      refine wpAnyH_ready (rs := [25]) (by kernel_rfl) (by simp) ?_
      refine AllReadyH.cons (o := { dst := none, op := Op.store 4 (Operand.tmp 37) (Operand.tmp 35), type := 0, pos := "book.go:40", after := #[{ on := 24, ground := Ground.data }, { on := 22, ground := Ground.data }, { on := 20, ground := Ground.chain }, { on := 0, ground := Ground.phase }, { on := 1, ground := Ground.phase }, { on := 2, ground := Ground.phase }, { on := 3, ground := Ground.phase }, { on := 4, ground := Ground.phase }, { on := 5, ground := Ground.phase }, { on := 6, ground := Ground.phase }, { on := 7, ground := Ground.phase }, { on := 8, ground := Ground.phase }, { on := 9, ground := Ground.phase }, { on := 10, ground := Ground.phase }, { on := 11, ground := Ground.phase }, { on := 12, ground := Ground.phase }, { on := 13, ground := Ground.phase }, { on := 14, ground := Ground.phase }, { on := 15, ground := Ground.phase }, { on := 16, ground := Ground.phase }, { on := 17, ground := Ground.phase }, { on := 18, ground := Ground.phase }, { on := 19, ground := Ground.phase }, { on := 20, ground := Ground.phase }, { on := 21, ground := Ground.phase }, { on := 22, ground := Ground.phase }], guard := none }) rfl (fun K hK => ?_) AllReadyH.nil
      have rw5 : w5.heap[gB]? = _ := (congrArg (fun h => h[gB]?) hHeld.1).trans ROW.out
      have h3 := (cells4 rw5).2.2.2
      have f3 := frozen_of_row _ _ 3 _ _ rw5
      go_simp
      refine hK.out _ _ (Still.trans hHeld (still_setCell rw5 rfl)) (fun hHeld2 => ?_)
      clear hK K h3 f3
      try simp only [Act.put, List.setIfInBounds_toArray, List.set_cons_zero, List.set_cons_succ]
      refine wpAnyH_done (by kernel_rfl) ?_ _
      refine NoPanic.normal ?_
      generalize World.setCell w5 ⟨gB, 3, none⟩ _ = W4 at *
      clear rw5 hHeld
      clear w5
      go_wp2
      go_roundw
      case rel => exact ⟨k + 1, by omega, by go_num, Still.trans ST.out hHeld2⟩
      case measure => simp [intOf]; omega
    · obtain rfl : k = n := by omega
      clear hbk hst
      go_wp2
      go_ret
      exact ⟨rfl, ST.out⟩
end Dg
end Go.Proofs.YtlcilclhaahopaaDoor
namespace Go.Proofs.YtlcilclhaahopaaDoor
open Go.RowKit
theorem Chg.setCells {p : Nat → Prop} {w : World} (g : Nat) (hg : g < w.heap.size → p g) : ∀ (vs : List Value) (o : Nat) {W : World}, Chg p w W → Chg p w (W.setCells g o vs)
  | [], _, _, h => h
  | v :: r, o, _, h => Chg.setCells g hg r (o + 1) (h.setCell g o v hg)
theorem row_setCells {w : World} {g : Nat} {t : TypeId} : ∀ (vs : List Value) (o : Nat) {w : World} {cur : Array Value}, w.heap[g]? = some (.cells cur t (0, 0)) → ∃ cur', (w.setCells g o vs).heap[g]? = some (.cells cur' t (0, 0)) ∧ cur'.size = cur.size
  | [], _, _, cur, h => ⟨cur, h, rfl⟩
  | v :: r, o, _, cur, h => by
    obtain ⟨c, h1, h2⟩ := row_setCells (w := w) r (o + 1) (heap_setCell_same _ _ o _ _ v h)
    exact ⟨c, h1, by rw [h2]; simp⟩
namespace Dg
/-- The mark of place j of list k. -/
def mkC (k j : Nat) : S.Cv := ⟨-100 - (k : Int), j % 4294967296⟩
theorem mark_any (k j : Nat) (hk : k ≤ 200) (w : World) :
   Calls Tryd.prog 33 #[.int .i64 (k : Int), .int .i64 (j : Int)] w fun e w' => e = .returned (.agg (encC (mkC k j)).toArray) ∧ Below w.heap.size w w' := by
  have q1 : IntKind.i64.wrap (-100 - (k : Int)) = -100 - (k : Int) := by rw [IntKind.wrap_i64]; omega
  obtain ⟨m, hm⟩ : ∃ m, m = j % 4294967296 := ⟨_, rfl⟩
  have q2 : IntKind.u32.wrap (j : Int) = (m : Int) := by rw [IntKind.wrap_u32]; omega
  have q3 : (j : Int) % 4294967296 = (m : Int) := by omega
  have HC : Hid (mkC k j = ⟨-100 - (k : Int), m⟩) := by show mkC k j = _; rw [mkC, hm]
  clear hm
  go_enter Tryd.func33, Tryd.ntmps33
  go_wp2
  exact bodyPost_ret (results_cell_row (g := w.heap.size) (t := 42) (fr := (0, 0)) Tryd.results33 _ _ _ _ rfl (show (w.alloc (.cells (encC ⟨-100 - (k : Int), m⟩).toArray 42)).heap[w.heap.size]? = _ from heap_alloc_new _ _) Tryd.underlying42 rfl (size_c _)) rfl ⟨by rw [HC.out], (Below.refl _ _).alloc (Nat.le_refl _) _⟩
/-- The first k lists are marked; the others, and all that is no list, are as they were. -/
structure MarkedTo (w W : World) (es : List Entry) (k : Nat) : Prop where
  chg : Chg (fun b => ∃ e ∈ es, b = e.g) w W
  done : ∀ j (h : j < es.length), j < k → ∀ i, i < es[j].cap → W.rangeAt es[j].g (i * 2) (encC (mkC j i))
  todo : ∀ j (h : j < es.length), k ≤ j → W.heap[es[j].g]? = w.heap[es[j].g]?
theorem MarkedTo.zero {w W : World} {es : List Entry} (h : Still w W) : MarkedTo w W es 0 := ⟨Chg.ofStill h, fun _ _ hj => by omega, fun _ _ _ => by rw [h.1]⟩
/-- Within list k, the first j places are marked. -/
structure MarkedIn (o W : World) (g c k j : Nat) : Prop where
  chg : Chg (fun b => b = g) o W
  lt : g < o.heap.size
  there : ∀ i, i < c → W.there g (i * 2) 2
  row : ∀ i, i < j → W.rangeAt g (i * 2) (encC (mkC k i))
theorem MarkedIn.below {o W W' : World} {g c k j : Nat} (h : MarkedIn o W g c k j) (hb : Below W.heap.size W W') : MarkedIn o W' g c k j := by
  have hg : W'.heap[g]? = W.heap[g]? := hb.block g (Nat.lt_of_lt_of_le h.lt h.chg.size)
  refine ⟨h.chg.trans (Chg.ofBelow' (p := fun _ => False) hb) (fun _ _ e => False.elim e), h.lt, fun i hi q hq => ⟨?_, ?_⟩, fun i hi q u hu => ?_⟩
  · rw [World.cell?_of_block (w := W) hg]; exact (h.there i hi q hq).1
  · rw [← (h.there i hi q hq).2]; exact World.frozen?_of_block (w := W) hg
  · rw [World.cell?_of_block (w := W) hg]; exact h.row i hi q u hu
theorem MarkedIn.step {o W : World} {g c k j : Nat} (h : MarkedIn o W g c k j) (hj : j < c) : MarkedIn o (W.setCells g (j * 2) (encC (mkC k j))) g c k (j + 1) := by
  have hl : (encC (mkC k j)).length = 2 := encC_length _
  refine ⟨Chg.setCells (p := fun b => b = g) g (fun _ => rfl) _ _ h.chg, h.lt, fun i hi => World.there_setCells (h.there i hi) _ _ _, fun i hi => ?_⟩
  by_cases hij : i = j
  · subst hij
    exact World.rangeAt_setCells_same _ _ _ _ (by rw [hl]; exact h.there i hj)
  · exact World.rangeAt_setCells_apart (h.row i (by omega)) _ _ _ (Or.inr (Or.inl (by rw [encC_length]; omega)))
theorem MarkedIn.drewN {o W : World} {g c k j : Nat} (h : MarkedIn o W g c k j) (n : Nat) : MarkedIn o (W.drewN n) g c k j := h.below ⟨rfl, rfl, rfl, Nat.le_refl _, fun _ _ => rfl⟩
theorem nodup_get {es : List Entry} (h : (es.map Entry.g).Nodup) {i j : Nat} (hi : i < es.length) (hj : j < es.length) (hij : i ≠ j) : es[i].g ≠ es[j].g := by
  intro e
  have h1 : (es.map Entry.g)[i]'(by simpa using hi) = (es.map Entry.g)[j]'(by simpa using hj) := by simpa using e
  exact hij ((List.getElem_inj h).1 h1)
theorem MarkedTo.next {w o W : World} {es : List Entry} {k : Nat} (h : MarkedTo w o es k) (hk : k < es.length) (hn : (es.map Entry.g).Nodup) (hlt : ∀ e ∈ es, e.g < w.heap.size) (hi : MarkedIn o W es[k].g es[k].cap k es[k].cap) : MarkedTo w W es (k + 1) := by
  refine ⟨h.chg.trans hi.chg (fun j _ e => ⟨_, List.getElem_mem hk, e⟩), fun j hj hjk => ?_, fun j hj hjk => ?_⟩
  · by_cases e : j = k
    · subst e
      exact hi.row
    · intro i hic q u hu
      rw [World.cell?_of_block (w := o) (hi.chg.block _ (Nat.lt_of_lt_of_le (hlt _ (List.getElem_mem hj)) h.chg.size) (nodup_get hn hj hk e))]
      exact h.done j hj (by omega) i hic q u hu
  · exact (hi.chg.block _ (Nat.lt_of_lt_of_le (hlt _ (List.getElem_mem hj)) h.chg.size) (nodup_get hn hj hk (by omega))).trans (h.todo j hj (by omega))
theorem MarkedTo.begin {w o : World} {es : List Entry} {k : Nat} (h : MarkedTo w o es k) (hk : k < es.length) (hr : Room w es[k].g es[k].cap es[k].bs) : MarkedIn o o es[k].g es[k].cap k 0 := by
  obtain ⟨cur, q1, q2, _⟩ := hr
  have q3 := (h.todo k hk (Nat.le_refl _)).trans q1
  refine ⟨Chg.refl _ _, block_lt_of_row q3, fun i hi q hq => ⟨?_, ?_⟩, fun i hi => by omega⟩
  · rw [cell_of_row o _ (i * 2 + q) _ _ _ q3, Array.getElem?_eq_getElem (by rw [q2]; omega)]
    rfl
  · exact frozen_of_row _ _ _ _ _ q3
/-- What the walk of Apart reads of the book, where the first lists are marked. -/
theorem BookIs.reads {w W : World} {gB base top : Nat} {vl vw : Value} {es : List Entry} {k : Nat} (h : BookIs w gB base top vl vw es) (hm : MarkedTo w W es k) :
    W.heap[gB]? = some (.cells #[vl, vw, .int .i64 (hw es), .bool false] 69 (0, 0)) ∧ Lists W vl (es.map Entry.val) :=
  ⟨(hm.chg.block gB (Nat.lt_of_lt_of_le h.hi h.top_le) (fun ⟨e, he, e2⟩ => (h.ents e he).2.2.2.1 e2.symm)).trans h.row, h.lists.kept fun j hj => hm.chg.block j (h.lists.lt hj) (fun ⟨e, he, e2⟩ => (h.ents e he).2.2.2.2.1 (e2 ▸ hj))⟩
theorem MarkedTo.below {w W : World} {gB base top : Nat} {vl vw : Value} {es : List Entry} {k : Nat} (h : BookIs w gB base top vl vw es) (hm : MarkedTo w W es k) : Below base w W :=
  hm.chg.below base (by have := h.lo; have := h.hi; have := h.top_le; omega) (fun j hj ⟨e, he, e2⟩ => by have := (h.ents e he).2.1; omega)
set_option maxHeartbeats 4000000 in
set_option maxRecDepth 100000 in
theorem apart_any (gB base top : Nat) (vl vw : Value) (es : List Entry) (w : World) (hbk : BookIs w gB base top vl vw es) :
   Calls Tryd.prog 32 #[.pointer (some ⟨gB, 0, none⟩), .func (.func 33) #[] #[]] w fun e w' => e = .returned (.bool true) ∧ KeptFrom base top w w' := by
  obtain ⟨aol, cl, hvl⟩ := hbk.lists.shape
  rw [List.length_map] at hvl
  subst hvl
  obtain ⟨n, hn⟩ : ∃ n, n = es.length := ⟨_, rfl⟩
  have hnb : n ≤ 100 := by rw [hn]; exact hbk.few
  have HN := hide hn
  have HBK := hide hbk
  clear hbk
  rw [← hn] at HBK
  clear hn
  go_enter Tryd.func32, Tryd.ntmps32
  go_wp2_with fail
  refine (stays_any gB base top _ vw es w HBK.out).mono ?_
  rintro e0 w1 ⟨rfl, hst⟩
  have M0 : Hid (MarkedTo w w1 es 0) := MarkedTo.zero hst
  clear hst
  go_wp2_with fail
  go_loopw [5] (fun i wr => ∃ k : Nat, k ≤ n ∧ i = .int .i64 (k : Int) ∧ MarkedTo w wr es k) (fun i _ => n - (intOf i).toNat)
  case atStart => exact ⟨0, by omega, rfl, M0.out⟩
  case round =>
    obtain ⟨k, hk, rfl, hm⟩ := hrel
    have hrd := HBK.out.reads hm
    have c0 := (cells4 hrd.1).1
    have MM := hide hm
    by_cases hlt : k < n
    · have hke : k < es.length := by have := HN.out; omega
      obtain ⟨gl, ol, cl', hx, hcl, hcell⟩ := hrd.2.at k (by rw [List.length_map]; exact hke)
      rw [getD_map _ hke] at hcell
      simp only [Value.slice.injEq, List.length_map] at hx hcl
      obtain ⟨rfl, hnn, rfl⟩ := hx
      clear hnn
      have hen := HBK.out.ents es[k] (List.getElem_mem hke)
      have HIN := hide (hm.begin hke hen.1)
      have HNX : Hid (∀ W, MarkedIn wr W es[k].g es[k].cap k es[k].cap → MarkedTo w W es (k + 1)) := fun W hW => hm.next hke HBK.out.nodup (fun e he => Nat.lt_of_lt_of_le (HBK.out.ents e he).2.2.1 HBK.out.top_le) hW
      obtain ⟨e, he⟩ : ∃ e, e = es[k] := ⟨_, rfl⟩
      rw [← he] at hcell hen HIN HNX
      have hcape := hen.2.2.2.2.2.2.2.2.1
      have hbl := hen.1.le
      have d1 : wr.cell? ⟨gl, ol + k, none⟩ = some (.slice (some ⟨e.g, 0, none⟩) e.bs.length e.cap) := hcell
      have q1 : (0 : Int) ≤ (k : Int) := by omega
      have q2 : (k : Int) < (n : Int) := by omega
      have q3 : (0 : Int) ≤ (e.cap : Int) := by omega
      have q4 : IntKind.i64.wrap ((k : Int) + 1) = (k : Int) + 1 := by rw [IntKind.wrap_i64]; omega
      clear hm hrd hcell hen he hke hcl
      go_wp2
      go_quiet (fail)
      go_wp2
      obtain ⟨wo, rfl⟩ : ∃ wo : World, wo = wr := ⟨_, rfl⟩
      go_loopw [7] (fun i wr => ∃ j : Nat, j ≤ e.cap ∧ i = .int .i64 (j : Int) ∧ MarkedIn wo wr e.g e.cap k j) (fun i _ => e.cap - (intOf i).toNat)
      case atStart => exact ⟨0, by omega, rfl, HIN.out.drewN _⟩
      case round =>
        obtain ⟨j, hj, rfl, hin⟩ := hrel
        by_cases hjl : j < e.cap
        · have p1 : (0 : Int) ≤ (j : Int) := by omega
          have p2 : (j : Int) < (e.cap : Int) := by omega
          have p3 : IntKind.i64.wrap ((j : Int) + 1) = (j : Int) + 1 := by rw [IntKind.wrap_i64]; omega
          have HI2 := hide hin
          clear hin c0 d1
          go_wp2_with fail
          refine (mark_any k j (by omega) _).mono ?_
          rintro e' w5 ⟨rfl, b5⟩
          have HI5 := hide (HI2.out.below b5)
          have hst := run_storeAt_mid (P := Tryd.prog) w5 e.g (j * 2) 42 ((encC (mkC k j)).toArray) (by rw [List.size_toArray, encC_length]; exact HI5.out.there j hjl) (size_c _) (by simp [encC, Value.oneCell'])
          rw [show (encC (mkC k j)).toArray.toList = encC (mkC k j) from rfl] at hst
          have ST := hide (HI5.out.step hjl)
          obtain ⟨W6, hW6⟩ : ∃ W, W = w5.setCells e.g (j * 2) (encC (mkC k j)) := ⟨_, rfl⟩
          rw [← hW6] at hst ST
          obtain ⟨MK, hMK⟩ : ∃ M, M = (encC (mkC k j)).toArray := ⟨_, rfl⟩
          rw [← hMK] at hst ⊢
          clear b5 HI2 HI5 hW6 hMK
          go_wp2_with (with_reducible refine at_op { dst := none, op := Op.store 42 (Operand.tmp 51) (Operand.tmp 50), type := 0, pos := "book.go:53", after := #[{ on := 6, ground := Ground.data }, { on := 5, ground := Ground.data }, { on := 5, ground := Ground.chain }, { on := 0, ground := Ground.phase }, { on := 1, ground := Ground.phase }, { on := 2, ground := Ground.phase }, { on := 3, ground := Ground.phase }, { on := 4, ground := Ground.phase }, { on := 5, ground := Ground.phase }], guard := none } ?_; refine wpList_store_as rfl 42 (.tmp 51) (.tmp 50) rfl (.pointer (some ⟨e.g, j * 2, none⟩)) (.agg MK) rfl rfl W6 hst ?_)
          go_roundw
          case rel => exact ⟨j + 1, by omega, by go_num, ST.out⟩
          case measure => simp [intOf]; omega
        · obtain rfl : e.cap = j := by omega
          have NX := hide (HNX.out wr hin)
          clear hin
          go_wp2
          go_roundw
          case rel => exact ⟨k + 1, by omega, by go_num, NX.out⟩
          case measure => simp [intOf]; omega
    · obtain rfl : n = k := by omega
      clear hrd hm
      go_wp2
      obtain ⟨W3, rfl⟩ : ∃ W3 : World, W3 = wr := ⟨_, rfl⟩
      go_loopw [8] (fun i wr => ∃ k : Nat, k ≤ n ∧ i = .int .i64 (k : Int) ∧ Below W3.heap.size W3 wr) (fun i _ => n - (intOf i).toNat)
      case atStart => exact ⟨0, by omega, rfl, Below.refl _ _⟩
      case round =>
        obtain ⟨k, hk, rfl, hst3⟩ := hrel
        have hrd := HBK.out.reads MM.out
        have c0 : wr.cell? ⟨gB, 0, none⟩ = _ := (hst3.cell (p := ⟨gB, 0, none⟩) (block_lt_of_row hrd.1)).trans (cells4 hrd.1).1
        by_cases hlt : k < n
        · have hke : k < es.length := by have := HN.out; omega
          obtain ⟨gl, ol, cl', hx, hcl, hcell⟩ := hrd.2.at k (by rw [List.length_map]; exact hke)
          rw [getD_map _ hke] at hcell
          simp only [Value.slice.injEq, List.length_map] at hx hcl
          obtain ⟨rfl, hnn, rfl⟩ := hx
          clear hnn
          have hen := HBK.out.ents es[k] (List.getElem_mem hke)
          have hmk := MM.out.done k hke (by omega)
          obtain ⟨e, he⟩ : ∃ e, e = es[k] := ⟨_, rfl⟩
          rw [← he] at hcell hen hmk
          have hcape := hen.2.2.2.2.2.2.2.2.1
          have hbl := hen.1.le
          have d1 : wr.cell? ⟨gl, ol + k, none⟩ = some (.slice (some ⟨e.g, 0, none⟩) e.bs.length e.cap) := (hst3.cell (p := ⟨gl, ol + k, none⟩) (World.block_lt_of_cell? _ _ hcell)).trans hcell
          have HMK := hide hmk
          have q1 : (0 : Int) ≤ (k : Int) := by omega
          have q2 : (k : Int) < (n : Int) := by omega
          have q3 : (0 : Int) ≤ (e.cap : Int) := by omega
          have q4 : IntKind.i64.wrap ((k : Int) + 1) = (k : Int) + 1 := by rw [IntKind.wrap_i64]; omega
          have ST3 := hide hst3
          clear hrd hcell hen he hke hcl hmk hst3
          go_wp2
          go_quiet (fail)
          go_wp2
          obtain ⟨wp, rfl⟩ : ∃ wp : World, wp = wr := ⟨_, rfl⟩
          go_loopw [10] (fun i wr => ∃ j : Nat, j ≤ e.cap ∧ i = .int .i64 (j : Int) ∧ Below W3.heap.size W3 wr) (fun i _ => e.cap - (intOf i).toNat)
          case atStart => exact ⟨0, by omega, rfl, ⟨ST3.out.os, ST3.out.tape, ST3.out.output, ST3.out.size, ST3.out.block⟩⟩
          case round =>
            obtain ⟨j, hj, rfl, hst4⟩ := hrel
            by_cases hjl : j < e.cap
            · have p1 : (0 : Int) ≤ (j : Int) := by omega
              have p2 : (j : Int) < (e.cap : Int) := by omega
              have p3 : IntKind.i64.wrap ((j : Int) + 1) = (j : Int) + 1 := by rw [IntKind.wrap_i64]; omega
              have hrr := HMK.out j hjl
              obtain ⟨cs, hcs⟩ : ∃ cs, cs = encC (mkC k j) := ⟨_, rfl⟩
              obtain ⟨MV, hMV⟩ : ∃ M, M = (encC (mkC k j)).toArray := ⟨_, rfl⟩
              have heq : ∀ w, (Op.equalIn 10000 42 (.agg cs.toArray) (.agg MV)).run Tryd.prog w = .ok true w := fun w => by rw [hcs, hMV]; exact equal_c (mkC k j) (mkC k j) true (by simp) w
              have HCS := hide (show (Tryd.prog.info? 42).map (·.size) = some cs.length by rw [hcs]; simpa using size_c (mkC k j))
              rw [← hcs] at hrr
              have HR := hide hrr
              have HMV := hide hMV
              have HS4 := hide hst4
              clear hrr hcs hMV c0 d1 hst4
              go_wp2_with fail
              refine wp_region_noPanic ?_
              refine wp_region_held_drew (S := (fun W => Below W3.heap.size W3 W)) follows (HS4.out.drew) (fun hHeld => ?_)
              have BZ := hide hHeld
              generalize wr.drew = Z at BZ hHeld ⊢
              refine wpAnyH_take (i := 0) (oi := { dst := some 83, op := Op.move (Operand.tmp 9), type := 23, pos := "book.go:59", after := #[], guard := none }) (v := ?_) rfl (by kernel_rfl) (by kernel_rfl) (by kernel_rfl) (fun _ _ _ h => h) (Or.inl ⟨by rfl, ?_⟩) (by assumption) ?_
              rotate_left
              · intro w hSw
                clear hSw
                go_simp
                all_goals with_reducible rfl
              simp only [Act.put, List.setIfInBounds_toArray, List.set_cons_zero, List.set_cons_succ]
              refine wpAnyH_take (i := 1) (oi := { dst := some 84, op := Op.move (Operand.tmp 10), type := 3, pos := "book.go:59", after := #[], guard := none }) (v := ?_) rfl (by kernel_rfl) (by kernel_rfl) (by kernel_rfl) (fun _ _ _ h => h) (Or.inl ⟨by rfl, ?_⟩) (by assumption) ?_
              rotate_left
              · intro w hSw
                clear hSw
                go_simp
                all_goals with_reducible rfl
              simp only [Act.put, List.setIfInBounds_toArray, List.set_cons_zero, List.set_cons_succ]
              refine wpAnyH_take (i := 2) (oi := { dst := some 85, op := Op.indexAddr 23 (Operand.tmp 83) (Operand.tmp 84), type := 0, pos := "book.go:59", after := #[{ on := 0, ground := Ground.data }, { on := 1, ground := Ground.data }], guard := none }) (v := ?_) rfl (by kernel_rfl) (by kernel_rfl) (by kernel_rfl) (fun _ _ _ h => h) (Or.inl ⟨by rfl, ?_⟩) (by assumption) ?_
              rotate_left
              · intro w hSw
                clear hSw
                go_simp
                all_goals with_reducible rfl
              simp only [Act.put, List.setIfInBounds_toArray, List.set_cons_zero, List.set_cons_succ]
              refine wpAnyH_take (i := 3) (oi := { dst := some 86, op := Op.load 42 (Operand.tmp 85), type := 42, pos := "book.go:59", after := #[{ on := 2, ground := Ground.data }], guard := none }) (v := .agg cs.toArray) rfl (by kernel_rfl) (by kernel_rfl) (by kernel_rfl) (fun _ _ _ h => h) (yieldsIf_load_mid (by rfl) _ _ rfl e.g (j * 2) rfl cs _ (fun _ hSw => (fun q u hu => (hSw.cell (p := ⟨e.g, j * 2 + q, none⟩) (World.block_lt_of_cell? _ _ (HR.out q u hu))).trans (HR.out q u hu))) Tryd.underlying42 rfl HCS.out) (by assumption) ?_
              simp only [Act.put, List.setIfInBounds_toArray, List.set_cons_zero, List.set_cons_succ]
              refine wpAnyH_take (i := 4) (oi := { dst := some 87, op := Op.move (Operand.tmp 1), type := 72, pos := "book.go:59", after := #[], guard := none }) (v := ?_) rfl (by kernel_rfl) (by kernel_rfl) (by kernel_rfl) (fun _ _ _ h => h) (Or.inl ⟨by rfl, ?_⟩) (by assumption) ?_
              rotate_left
              · intro w hSw
                clear hSw
                go_simp
                all_goals with_reducible rfl
              simp only [Act.put, List.setIfInBounds_toArray, List.set_cons_zero, List.set_cons_succ]
              refine wpAnyH_take (i := 5) (oi := { dst := some 88, op := Op.move (Operand.tmp 8), type := 3, pos := "book.go:59", after := #[], guard := none }) (v := ?_) rfl (by kernel_rfl) (by kernel_rfl) (by kernel_rfl) (fun _ _ _ h => h) (Or.inl ⟨by rfl, ?_⟩) (by assumption) ?_
              rotate_left
              · intro w hSw
                clear hSw
                go_simp
                all_goals with_reducible rfl
              simp only [Act.put, List.setIfInBounds_toArray, List.set_cons_zero, List.set_cons_succ]
              refine wpAnyH_take (i := 6) (oi := { dst := some 89, op := Op.move (Operand.tmp 10), type := 3, pos := "book.go:59", after := #[], guard := none }) (v := ?_) rfl (by kernel_rfl) (by kernel_rfl) (by kernel_rfl) (fun _ _ _ h => h) (Or.inl ⟨by rfl, ?_⟩) (by assumption) ?_
              rotate_left
              · intro w hSw
                clear hSw
                go_simp
                all_goals with_reducible rfl
              simp only [Act.put, List.setIfInBounds_toArray, List.set_cons_zero, List.set_cons_succ]
              refine wpAnyH_ready (rs := [7]) (by kernel_rfl) (by simp) ?_
              refine AllReadyH.cons (o := { dst := some 90, op := Op.call { callee := Callee.value (Operand.tmp 87), args := #[Operand.tmp 88, Operand.tmp 89], argTypes := #[3, 3] }, type := 42, pos := "book.go:59", after := #[{ on := 4, ground := Ground.data }, { on := 5, ground := Ground.data }, { on := 6, ground := Ground.data }], guard := none }) rfl (fun K hK => ?_) AllReadyH.nil
              go_simp
              refine (mark_any k j (by omega) _).mono ?_
              rintro e' w5 ⟨rfl, b5⟩
              rw [← HMV.out]
              have BZ5 : Hid (Below W3.heap.size W3 w5) := BZ.out.trans (b5.mono BZ.out.size)
              clear b5 BZ hHeld
              refine hK.out _ _ BZ5.out (fun hHeld => ?_)
              clear hK K
              try simp only [Act.put, List.setIfInBounds_toArray, List.set_cons_zero, List.set_cons_succ]
              refine wpAnyH_take (i := 8) (oi := { dst := some 91, op := Op.binOp BinOp.neq 42 (Operand.tmp 86) (Operand.tmp 90) 42, type := 4, pos := "book.go:59", after := #[{ on := 3, ground := Ground.data }, { on := 7, ground := Ground.data }], guard := none }) (v := ?_) rfl (by kernel_rfl) (by kernel_rfl) (by kernel_rfl) (fun _ _ _ h => h) (Or.inl ⟨by rfl, ?_⟩) (by assumption) ?_
              rotate_left
              · intro w hSw
                clear hSw
                go_simp
                all_goals with_reducible rfl
              simp only [Act.put, List.setIfInBounds_toArray, List.set_cons_zero, List.set_cons_succ]
              refine wpAnyH_done (by kernel_rfl) ?_ _
              refine NoPanic.normal ?_
              clear hHeld heq
              go_wp2_with fail
              go_roundw
              case rel => exact ⟨j + 1, by omega, by go_num, BZ5.out⟩
              case measure => simp [intOf]; omega
            · obtain rfl : e.cap = j := by omega
              go_wp2
              go_roundw
              case rel => exact ⟨k + 1, by omega, by go_num, hst4⟩
              case measure => simp [intOf]; omega
        · obtain rfl : n = k := by omega
          have hrow : wr.heap[gB]? = _ := (hst3.block gB (block_lt_of_row hrd.1)).trans hrd.1
          have f0 := frozen_of_row _ _ 0 _ _ hrow
          have f1 := frozen_of_row _ _ 1 _ _ hrow
          have f2 := frozen_of_row _ _ 2 _ _ hrow
          have c1 := (cells4 hrow).2.1
          have c2 := (cells4 hrow).2.2.1
          have BB : Hid (Below base w wr) := (MM.out.below HBK.out).trans (hst3.mono (by have := (MM.out.below HBK.out).size; have := HBK.out.lo; have := HBK.out.hi; have := HBK.out.top_le; omega))
          have BT : Hid (∀ j, top ≤ j → j < w.heap.size → wr.heap[j]? = w.heap[j]?) := fun j hj hjw => (hst3.block j (Nat.lt_of_lt_of_le hjw MM.out.chg.size)).trans (MM.out.chg.block j hjw (fun ⟨e, he, e2⟩ => by have := (HBK.out.ents e he).2.2.1; omega))
          have HTG : Hid (gB < top) := HBK.out.hi
          have HLO : Hid (base ≤ gB) := HBK.out.lo
          clear hrd hst3 hrow
          go_wp2
          go_ret
          refine ⟨rfl, ((BB.out.setCell HLO.out _).setCell HLO.out _).setCell HLO.out _, fun j hj hj2 => ?_⟩
          have hne : j ≠ gB := by have := HTG.out; omega
          rw [heap_setCell_other _ _ _ _ hne, heap_setCell_other _ _ _ _ hne, heap_setCell_other _ _ _ _ hne]
          exact BT.out j hj hj2
end Dg
end Go.Proofs.YtlcilclhaahopaaDoor
