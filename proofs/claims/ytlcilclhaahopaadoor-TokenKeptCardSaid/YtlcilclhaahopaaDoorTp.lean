/- Equal lists of caveats, equal tokens. -/
import Derived.Test.YtlcilclhaahopaaDoorTo
namespace Go.Proofs.YtlcilclhaahopaaDoor
open Go.RowKit

theorem wpList_load_when {w : World} {ops : Array Oper} {rest : List Oper} {o : Oper} {a : Act} {Q : Exit → Act → World → Prop} (hw : Region.wanted o (yielded ops a.tmps) = true) (t : TypeId) (x : Operand) (ho : o.op = .load t x) (vx : Value) (hx : a.eval x = vx) (v : Value)
    (hr : (Instr.loadAt t vx).run Tryd.prog w = .ok v w) (h : wpList Tryd.prog ops Q rest (a.put o.dst v) w) : wpList Tryd.prog ops Q (o :: rest) a w := by
  subst hx
  exact wpList_step fun _ hK => by
    rw [if_pos hw]
    unfold Oper.wp execOp
    simp only [ho, Sem.run_bind, hr, Result.andThen_ok]
    exact hK _ _ h
theorem neq_c (a : S.Cv) (w : World) : (binOp .neq 42 (.agg (encC a).toArray) (.agg (encC a).toArray)).run Tryd.prog w = .ok (.bool false) w := by
  have h := equal_c a a true (by simp) w
  simp only [binOp]
  simp [Op.equal, Op.maxDepth, h]
set_option maxHeartbeats 4000000 in
set_option maxRecDepth 10000 in
theorem same_c (v u : Value) (cs : List S.Cv) (w : World) (hl : cs.length ≤ 140737488355328) (hv : CvAt w v cs) (hu : CvAt w u cs) :
   Calls Tryd.prog 48 #[v, u] w fun e w' => e = .returned (.bool true) ∧ Still w w' := by
  obtain ⟨ao, n, cap, rfl, hn, hncap⟩ := hv.form
  obtain ⟨ao2, n2, cap2, rfl, hn2, hncap2⟩ := hu.form
  obtain rfl : n = n2 := by omega
  have HN := hide hn
  have HV := hide hv
  have HU := hide hu
  have hnb : n ≤ 140737488355328 := by rw [hn]; exact hl
  clear hv hu hn hn2 hl
  go_enter Tryd.func48, Tryd.ntmps48
  go_wp2_with fail
  go_loopg [5] n (fun gk s5 wr => ∃ i : Nat, i + gk = n ∧ s5 = .int .i64 (i : Int) ∧ Hid (Still w wr))
  case atStart => exact ⟨0, by omega, rfl, Still.refl _⟩
  case round =>
    obtain ⟨i, hi, rfl, ST⟩ := hrel
    cases gk with
    | zero =>
      obtain rfl : i = n := by omega
      have q : ¬ (i : Int) < (i : Int) := by omega
      clear hi
      go_wp2_with fail
      go_ret
      exact ⟨rfl, ST.out⟩
    | succ gO =>
      have q : (i : Int) < (n : Int) := by omega
      have q0 : (0 : Int) ≤ (i : Int) := by omega
      have q1 : IntKind.i64.wrap ((i : Int) + 1) = (i : Int) + 1 := by rw [IntKind.wrap_i64]; omega
      have hlt : i < cs.length := by rw [← HN.out]; omega
      obtain ⟨c, hc⟩ : ∃ c, cs[i]? = some c := ⟨_, List.getElem?_eq_getElem hlt⟩
      obtain ⟨g, off, cp1, e, -, hg, hra⟩ := HV.out.cells i c hc
      simp only [Value.slice.injEq] at e
      obtain ⟨e1, -, -⟩ := e
      subst e1
      obtain ⟨g2, off2, cp2, e, -, hg2, hra2⟩ := HU.out.cells i c hc
      simp only [Value.slice.injEq] at e
      obtain ⟨e1, -, -⟩ := e
      subst e1
      have RA := hide hra
      have RB := hide hra2
      clear hra hra2 hg hg2 hc
      go_wp2_with fail
      refine wp_region_noPanic ?_
      refine wp_region_held_drew (S := (fun W => Still wr W)) follows ((Still.refl _).drew) (fun hHeld => ?_)
      refine wpAnyH_take (i := 0) (oi := { dst := some 17, op := Op.move (Operand.tmp 0), type := 23, pos := "book.go:17", after := #[], guard := none }) (v := ?_) rfl (by kernel_rfl) (by kernel_rfl) (by kernel_rfl) (fun _ _ _ h => h) (Or.inl ⟨by rfl, ?_⟩) (by assumption) ?_
      rotate_left
      · intro w hSw
        clear hSw
        go_simp
        all_goals with_reducible rfl
      simp only [Act.put, List.setIfInBounds_toArray, List.set_cons_zero, List.set_cons_succ]
      refine wpAnyH_take (i := 1) (oi := { dst := some 18, op := Op.move (Operand.tmp 5), type := 3, pos := "book.go:17", after := #[], guard := none }) (v := ?_) rfl (by kernel_rfl) (by kernel_rfl) (by kernel_rfl) (fun _ _ _ h => h) (Or.inl ⟨by rfl, ?_⟩) (by assumption) ?_
      rotate_left
      · intro w hSw
        clear hSw
        go_simp
        all_goals with_reducible rfl
      simp only [Act.put, List.setIfInBounds_toArray, List.set_cons_zero, List.set_cons_succ]
      refine wpAnyH_take (i := 2) (oi := { dst := some 19, op := Op.indexAddr 23 (Operand.tmp 17) (Operand.tmp 18), type := 0, pos := "book.go:17", after := #[{ on := 0, ground := Ground.data }, { on := 1, ground := Ground.data }], guard := none }) (v := ?_) rfl (by kernel_rfl) (by kernel_rfl) (by kernel_rfl) (fun _ _ _ h => h) (Or.inl ⟨by rfl, ?_⟩) (by assumption) ?_
      rotate_left
      · intro w hSw
        clear hSw
        go_simp
        all_goals with_reducible rfl
      simp only [Act.put, List.setIfInBounds_toArray, List.set_cons_zero, List.set_cons_succ]
      refine wpAnyH_take (i := 3) (oi := { dst := some 20, op := Op.load 42 (Operand.tmp 19), type := 42, pos := "book.go:17", after := #[{ on := 2, ground := Ground.data }], guard := none }) (v := .agg (encC c).toArray) rfl (by kernel_rfl) (by kernel_rfl) (by kernel_rfl) (fun _ _ _ h => h) (yieldsIf_load_mid (by rfl) _ _ rfl g (off + i * 2) rfl (encC c) _ (fun _ hSw => (fun j u hu => ((World.cell?_of_block (w := w) (by rw [hSw.1, ST.out.1])).trans (RA.out j u hu)))) Tryd.underlying42 rfl (by rw [size_c, List.size_toArray])) (by assumption) ?_
      simp only [Act.put, List.setIfInBounds_toArray, List.set_cons_zero, List.set_cons_succ]
      refine wpAnyH_take (i := 4) (oi := { dst := some 21, op := Op.move (Operand.tmp 1), type := 23, pos := "book.go:17", after := #[], guard := none }) (v := ?_) rfl (by kernel_rfl) (by kernel_rfl) (by kernel_rfl) (fun _ _ _ h => h) (Or.inl ⟨by rfl, ?_⟩) (by assumption) ?_
      rotate_left
      · intro w hSw
        clear hSw
        go_simp
        all_goals with_reducible rfl
      simp only [Act.put, List.setIfInBounds_toArray, List.set_cons_zero, List.set_cons_succ]
      refine wpAnyH_take (i := 5) (oi := { dst := some 22, op := Op.move (Operand.tmp 5), type := 3, pos := "book.go:17", after := #[], guard := none }) (v := ?_) rfl (by kernel_rfl) (by kernel_rfl) (by kernel_rfl) (fun _ _ _ h => h) (Or.inl ⟨by rfl, ?_⟩) (by assumption) ?_
      rotate_left
      · intro w hSw
        clear hSw
        go_simp
        all_goals with_reducible rfl
      simp only [Act.put, List.setIfInBounds_toArray, List.set_cons_zero, List.set_cons_succ]
      refine wpAnyH_take (i := 6) (oi := { dst := some 23, op := Op.indexAddr 23 (Operand.tmp 21) (Operand.tmp 22), type := 0, pos := "book.go:17", after := #[{ on := 4, ground := Ground.data }, { on := 5, ground := Ground.data }], guard := none }) (v := ?_) rfl (by kernel_rfl) (by kernel_rfl) (by kernel_rfl) (fun _ _ _ h => h) (Or.inl ⟨by rfl, ?_⟩) (by assumption) ?_
      rotate_left
      · intro w hSw
        clear hSw
        go_simp
        all_goals with_reducible rfl
      simp only [Act.put, List.setIfInBounds_toArray, List.set_cons_zero, List.set_cons_succ]
      refine wpAnyH_take (i := 7) (oi := { dst := some 24, op := Op.load 42 (Operand.tmp 23), type := 42, pos := "book.go:17", after := #[{ on := 6, ground := Ground.data }], guard := none }) (v := .agg (encC c).toArray) rfl (by kernel_rfl) (by kernel_rfl) (by kernel_rfl) (fun _ _ _ h => h) (yieldsIf_load_mid (by rfl) _ _ rfl g2 (off2 + i * 2) rfl (encC c) _ (fun _ hSw => (fun j u hu => ((World.cell?_of_block (w := w) (by rw [hSw.1, ST.out.1])).trans (RB.out j u hu)))) Tryd.underlying42 rfl (by rw [size_c, List.size_toArray])) (by assumption) ?_
      simp only [Act.put, List.setIfInBounds_toArray, List.set_cons_zero, List.set_cons_succ]
      refine wpAnyH_take (i := 8) (oi := { dst := some 25, op := Op.binOp BinOp.neq 42 (Operand.tmp 20) (Operand.tmp 24) 42, type := 4, pos := "book.go:17", after := #[{ on := 3, ground := Ground.data }, { on := 7, ground := Ground.data }], guard := none }) (v := ?_) rfl (by kernel_rfl) (by kernel_rfl) (by kernel_rfl) (fun _ _ _ h => h) (Or.inl ⟨by rfl, ?_⟩) (by assumption) ?_
      rotate_left
      · intro w hSw
        have e := neq_c c
        clear hSw
        go_simp
        all_goals with_reducible rfl
      simp only [Act.put, List.setIfInBounds_toArray, List.set_cons_zero, List.set_cons_succ]
      refine wpAnyH_done (by kernel_rfl) ?_ _
      refine NoPanic.normal ?_
      have S2 := hide (ST.out.trans hHeld)
      clear hHeld
      have S3 := S2
      go_wp2_with fail
      go_roundg gO
      case measure => omega
      case rel => exact ⟨i + 1, by omega, by first | rfl | simp, S2⟩

set_option maxHeartbeats 4000000 in
set_option maxRecDepth 10000 in
theorem sameTok_any (t : S.Tk) (v u : Value) (w : World) (ht : t.Ok) (hv : CvAt w v t.cs) (hu : CvAt w u t.cs) :
   Calls Tryd.prog 13 #[.agg (encT t.id v t.tag).toArray, .agg (encT t.id u t.tag).toArray] w fun e w' => e = .returned (.bool true) ∧ Below w.heap.size w w' := by
  obtain ⟨ao, n, cap, rfl, hn, hncap⟩ := hv.form
  obtain ⟨ao2, n2, cap2, rfl, hn2, hncap2⟩ := hu.form
  have HV := hide hv
  have HU := hide hu
  have HT := hide ht
  clear hv hu hn hn2 ht hncap hncap2
  go_enter Tryd.func13, Tryd.ntmps13
  go_upto_region 1 with fail
  generalize hW0 : w.alloc _ = W0
  generalize hW1 : W0.alloc _ = W1
  have B0 : Below w.heap.size w W0 := by rw [← hW0]; exact (Below.refl _ _).alloc (Nat.le_refl _) _
  have s0 : W0.heap.size = w.heap.size + 1 := by rw [← hW0]; simp
  have r0 : W0.heap[w.heap.size]? = some (.cells (encT t.id (.slice ao n cap) t.tag).toArray 27 (0, 0)) := by rw [← hW0]; exact heap_alloc_new _ _
  have B1 : Below W0.heap.size W0 W1 := by rw [← hW1]; exact (Below.refl _ _).alloc (Nat.le_refl _) _
  have s1 : W1.heap.size = w.heap.size + 2 := by rw [← hW1]; simp [s0]
  have r1 : W1.heap[w.heap.size + 1]? = some (.cells (encT t.id (.slice ao2 n2 cap2) t.tag).toArray 27 (0, 0)) := by rw [← hW1, ← s0]; exact heap_alloc_new _ _
  have BB : Hid (Below w.heap.size w W1) := (B0.trans (B1.mono (by omega)))
  have Q0 : Hid (W1.heap[w.heap.size]? = some (.cells (encT t.id (.slice ao n cap) t.tag).toArray 27 (0, 0))) := ((B1.block _ (by omega)).trans r0)
  have Q1 : Hid (W1.heap[w.heap.size + 1]? = some (.cells (encT t.id (.slice ao2 n2 cap2) t.tag).toArray 27 (0, 0))) := r1
  clear hW0 B0 s0 r0 hW1 B1 s1 r1
  obtain ⟨c0, c1⟩ := t_cells Q0.out
  obtain ⟨d0, d1⟩ := t_cells Q1.out
  have ld0 := load_tt Q0.out HT.out.tl
  have ld1 := load_tt Q1.out HT.out.tl
  have EQT : ∀ W, (Op.equalIn 10000 25 (.agg (S.v8 t.tag)) (.agg (S.v8 t.tag))).run Tryd.prog W = .ok true W := fun W => equal_dig t.tag t.tag HT.out.tl HT.out.tl true (by simp) W
  have eqt : (binOp .eql 25 (.agg (S.v8 t.tag)) (.agg (S.v8 t.tag))).run Tryd.prog W1 = .ok (.bool true) W1 := by
    simp only [binOp]
    simp [Op.equal, Op.maxDepth, EQT]
  have bid : ((t.id : Int) == (t.id : Int)) = true := by simp
  go_wp2_with (first | (with_reducible refine at_op { dst := some 12, op := Op.load 25 (Operand.tmp 11), type := 25, pos := "keep.go:32", after := #[{ on := 6, ground := Ground.data }, { on := 5, ground := Ground.guard }], guard := some (5, true) } ?_; refine wpList_load_when rfl 25 (.tmp 11) rfl (.pointer (some ⟨w.heap.size, 2, none⟩)) rfl (.agg (S.v8 t.tag)) ld0 ?_) | (with_reducible refine at_op { dst := some 14, op := Op.load 25 (Operand.tmp 13), type := 25, pos := "keep.go:32", after := #[{ on := 8, ground := Ground.data }, { on := 5, ground := Ground.guard }], guard := some (5, true) } ?_; refine wpList_load_when rfl 25 (.tmp 13) rfl (.pointer (some ⟨w.heap.size + 1, 2, none⟩)) rfl (.agg (S.v8 t.tag)) ld1 ?_))
  refine (same_c _ _ t.cs W1 HT.out.len (HV.out.below BB.out) (HU.out.below BB.out)).mono ?_
  rintro e w2 ⟨rfl, hst⟩
  have B2 := hide (BB.out.trans (hst.below _))
  clear hst
  go_wp2_with fail
  go_ret
  exact ⟨rfl, B2.out⟩
end Go.Proofs.YtlcilclhaahopaaDoor
