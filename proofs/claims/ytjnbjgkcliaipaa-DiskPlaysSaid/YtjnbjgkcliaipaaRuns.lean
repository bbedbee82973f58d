/- Runs of single operations on sectors and writes: built, laid, loaded, stored. -/
import Derived.Test.YtjnbjgkcliaipaaRead
import Derived.Great.BuildSlice
import Derived.Deep.WholeRow
namespace Go.Proofs.Ytjnbjgkcliaipaa
open Go.RowKit
theorem lay_at (off : Nat) (v cs : Array Value) (k : Nat) : (v.zipIdx.foldl (fun cs (x : Value × Nat) => cs.setIfInBounds (off + x.2) x.1) cs)[k]? = if off ≤ k ∧ k < off + v.size ∧ k < cs.size then v[k - off]? else cs[k]? := by
  obtain ⟨_, h⟩ := Great.foldl_set off v.toList 0 cs
  have e : v.zipIdx.foldl (fun cs (x : Value × Nat) => cs.setIfInBounds (off + x.2) x.1) cs = (v.toList.zipIdx 0).foldl (fun cs (x : Value × Nat) => cs.setIfInBounds (off + x.2) x.1) cs := by
    rw [← Array.foldl_toList, Array.toList_zipIdx]
  rw [e, h k]
  simp
/-- A write is built out of a place and a text. -/
theorem built75 (n : Nat) (t : List UInt8) (ht : t.length = 128) : Try.prog.built 75 [(0, .int .i64 (n : Int)), (1, .agg (S.v8l t).toArray)] = some (S.pc (n, t)).toArray := by
  have h : ∀ parts, Try.prog.built 75 parts = Instr.fill ((#[(0, 1), (1, 128)] : Array (Nat × Nat))[·]?) (.int .i64 0 :: S.v8l (S.zeros 128)).toArray parts := fun parts => by
    obtain ⟨i, hi, hz, _, _⟩ := info_pair info75 zero75
    unfold Program.built
    rw [hi, Try.underlying75]
    simp only [hz]
    rfl
  rw [h]
  have hl : (S.v8l t).length = 128 := by rw [S.v8l_length, ht]
  have hz : (.int .i64 0 :: S.v8l (S.zeros 128)).toArray.size = 129 := by simp [S.v8l_length, S.zeros_length]
  unfold Instr.fill
  simp only [show (#[(0, 1), (1, 128)] : Array (Nat × Nat))[0]? = some (0, 1) from rfl]
  rw [if_neg (by simp [Value.cells])]
  unfold Instr.fill
  simp only [show (#[(0, 1), (1, 128)] : Array (Nat × Nat))[1]? = some (1, 128) from rfl]
  rw [if_neg (by simp [Value.cells, hl, S.v8l_length, S.zeros_length])]
  unfold Instr.fill
  congr 1
  apply Array.ext_getElem?
  intro k
  have c0 : (Value.int .i64 (n : Int)).cells = #[.int .i64 (n : Int)] := rfl
  have c1 : (Value.agg (S.v8l t).toArray).cells = (S.v8l t).toArray := rfl
  rw [c0, c1]
  have l1 := lay_at 1 (S.v8l t).toArray ((#[Value.int .i64 (n : Int)].zipIdx.foldl (fun cs (x : Value × Nat) => cs.setIfInBounds (0 + x.2) x.1) (.int .i64 0 :: S.v8l (S.zeros 128)).toArray)) k
  have l0 := lay_at 0 #[Value.int .i64 (n : Int)] (.int .i64 0 :: S.v8l (S.zeros 128)).toArray k
  refine l1.trans ?_
  have hs : (#[Value.int .i64 (n : Int)].zipIdx.foldl (fun cs (x : Value × Nat) => cs.setIfInBounds (0 + x.2) x.1) (.int .i64 0 :: S.v8l (S.zeros 128)).toArray).size = 129 := by
    rw [← hz]; simp
  rw [hs, l0, hz]
  simp only [S.pc, List.size_toArray, hl, List.getElem?_toArray]
  cases k with
  | zero => rw [if_neg (by omega), if_pos ⟨Nat.le_refl _, by simp, by omega⟩]; rfl
  | succ k =>
    rw [List.getElem?_cons_succ]
    by_cases hk : k < 128
    · rw [if_pos ⟨by omega, by omega, by omega⟩]; rfl
    · rw [if_neg (by omega), if_neg (by simp), List.getElem?_cons_succ, List.getElem?_eq_none (by rw [S.v8l_length, S.zeros_length]; omega), List.getElem?_eq_none (by omega)]
theorem build75 (n : Nat) (t : List UInt8) (ht : t.length = 128) (w : World) : (Instr.build 75 #[(0, .int .i64 (n : Int)), (1, .agg (S.v8l t).toArray)]).run Try.prog w = .ok (.agg (S.pc (n, t)).toArray) w :=
  run_build w 75 _ _ (built75 n t ht)
theorem buildSlice68 (p : Nat × List UInt8) (hp : p.2.length = 128) (w : World) : (Instr.buildSlice 68 1 #[(0, .agg (S.pc p).toArray)]).run Try.prog w = .ok (.slice (some ⟨w.heap.size, 0, none⟩) 1 1) (w.alloc (.cells (S.pc p).toArray 75)) := by
  obtain ⟨i, hi, hz, hs, _⟩ := info_pair info75 zero75
  refine run_buildSlice w 68 75 1 _ _ i _ Try.underlying68 hi hz (by rw [hs]; omega) (by rw [hs]; omega) ?_
  have h := Great.fill_whole (s := 129) (by omega) [.agg (S.pc p).toArray] ((Array.range (1 * i.size)).map ((Value.agg (.int .i64 0 :: S.v8l (S.zeros 128)).toArray).cells[· % (Value.agg (.int .i64 0 :: S.v8l (S.zeros 128)).toArray).cells.size]!)) (fun v hv => by
    simp only [List.mem_singleton] at hv
    subst hv
    show (S.pc p).toArray.size = 129
    rw [List.size_toArray, S.pc_length p hp]) (by simp [hs])
  rw [hs] at h ⊢
  refine h.trans ?_
  simp [Value.cells]
theorem alloc75 (w : World) : (Instr.alloc 75 true (.tuple #[])).run Try.prog w = .ok (.pointer (some ⟨w.heap.size, 0, none⟩)) (w.alloc (.cells (.int .i64 0 :: S.v8l (S.zeros 128)).toArray 75)) := by
  obtain ⟨i, hi, hz, _, _⟩ := info_pair info75 zero75
  simp [Instr.alloc, zeroValue, typeInfo, hi, hz, newVar, newRow, Value.cells]
theorem one75 (p : Nat × List UInt8) : (S.pc p).toArray.all (·.oneCell') = true := all_oneCell_toArray (S.pc_one p)
theorem store75 (p : Nat × List UInt8) (hp : p.2.length = 128) (w : World) (c : Array Value) (hc : c.size = 129) : (Instr.storeAt 75 (.pointer (some ⟨w.heap.size, 0, none⟩)) (.agg (S.pc p).toArray)).run Try.prog (w.alloc (.cells c 75)) = .ok () (w.alloc (.cells (S.pc p).toArray 75)) := by
  have h := run_storeVar_row (P := Try.prog) (w.alloc (.cells c 75)) w.heap.size 75 75 c (S.pc p).toArray (heap_alloc_new _ _) (by rw [size75, List.size_toArray, S.pc_length p hp]) (by rw [hc, List.size_toArray, S.pc_length p hp]) (one75 p)
  rw [World.setRow_alloc_new] at h
  simp only [Instr.storeAt, Instr.sureAddr, Sem.run_bind, Sem.run_pure, Result.andThen_ok, h]
theorem wpList_build_known {w : World} {ops : Array Oper} {rest : List Oper} {o : Oper} {a : Act} {Q : Exit → Act → World → Prop} (hgd : o.guard = none) (t : TypeId) (parts : List (Nat × Operand)) (ho : o.op = .build t parts.toArray) (v : Value)
    (hr : (Instr.build t (parts.map fun p => (p.1, a.eval p.2)).toArray).run Try.prog w = .ok v w) (h : wpList Try.prog ops Q rest (a.put o.dst v) w) : wpList Try.prog ops Q (o :: rest) a w :=
  wpList_plain hgd fun _ hK => by
    unfold Oper.wp execOp
    simp only [ho, Sem.run_bind, List.map_toArray, hr, Result.andThen_ok]
    exact hK _ _ h
theorem wpList_alloc_known {w : World} {ops : Array Oper} {rest : List Oper} {o : Oper} {a : Act} {Q : Exit → Act → World → Prop} (hgd : o.guard = none) (t : TypeId) (ho : o.op = .alloc t) (v : Value) (w' : World)
    (hr : (Instr.alloc t true (.tuple #[])).run Try.prog w = .ok v w') (h : wpList Try.prog ops Q rest (a.put o.dst v) w') : wpList Try.prog ops Q (o :: rest) a w :=
  wpList_plain hgd fun _ hK => by
    unfold Oper.wp execOp
    simp only [ho, Sem.run_bind, hr, Result.andThen_ok]
    exact hK _ _ h
theorem wpList_store_known {w : World} {ops : Array Oper} {rest : List Oper} {o : Oper} {a : Act} {Q : Exit → Act → World → Prop} (hgd : o.guard = none) (t : TypeId) (x y : Operand) (ho : o.op = .store t x y) (w' : World)
    (hr : (Instr.storeAt t (a.eval x) (a.eval y)).run Try.prog w = .ok () w') (h : wpList Try.prog ops Q rest (a.put o.dst undef) w') : wpList Try.prog ops Q (o :: rest) a w :=
  wpList_plain hgd fun _ hK => by
    unfold Oper.wp execOp
    simp only [ho, Sem.run_bind, hr, Result.andThen_ok, Sem.run_pure]
    exact hK _ _ h
theorem wpList_load_known {w : World} {ops : Array Oper} {rest : List Oper} {o : Oper} {a : Act} {Q : Exit → Act → World → Prop} (hgd : o.guard = none) (t : TypeId) (x : Operand) (ho : o.op = .load t x) (v : Value)
    (hr : (Instr.loadAt t (a.eval x)).run Try.prog w = .ok v w) (h : wpList Try.prog ops Q rest (a.put o.dst v) w) : wpList Try.prog ops Q (o :: rest) a w :=
  wpList_plain hgd fun _ hK => by
    unfold Oper.wp execOp
    simp only [ho, Sem.run_bind, hr, Result.andThen_ok]
    exact hK _ _ h
theorem wpList_assign_known {w : World} {ops : Array Oper} {rest : List Oper} {o : Oper} {a : Act} {Q : Exit → Act → World → Prop} (hgd : o.guard = none) (x : Operand) (ho : o.op = .assign x) (h : wpList Try.prog ops Q rest (a.put o.dst (a.eval x)) w) : wpList Try.prog ops Q (o :: rest) a w :=
  wpList_plain hgd fun _ hK => by
    unfold Oper.wp execOp
    simp only [ho, Sem.run_pure]
    exact hK _ _ h
/-- Steps of a drawn region whose runs are known. -/
theorem step_buildSlice {md : Region.Mode} {ops : Array Oper} {Q : Exit → Act → World → Prop} {S : World → Prop} {fuel : Nat} {listed : Array Bool} {a : Act} {w : World} {i : Nat} {o : Oper} {rs : List Nat} (ho : ops[i]? = some o) (hgd : o.guard = none) (t : TypeId) (n : Nat) (parts : List (Nat × Operand))
    (hop : o.op = .buildSlice t n parts.toArray) (v' : Value) (w' : World) (hr : (Instr.buildSlice t n (parts.map fun p => (p.1, a.eval p.2)).toArray).run Try.prog w = .ok v' w') (hrest : AllReadyH Try.prog md ops Q S fuel listed a w rs)
    (h : S w' ∧ (S w' → wpAnyH Try.prog md ops Q S fuel (listed.setIfInBounds i true) (a.put o.dst v') w')) : AllReadyH Try.prog md ops Q S fuel listed a w (i :: rs) := by
  refine AllReadyH.cons ho (fun K hK => ?_) hrest
  rw [if_pos (by simp [Region.wanted, hgd])]
  unfold Oper.wp execOp
  simp only [hop, Sem.run_bind, List.map_toArray, hr, Result.andThen_ok]
  exact hK.out _ _ h.1 h.2
theorem step_store {md : Region.Mode} {ops : Array Oper} {Q : Exit → Act → World → Prop} {S : World → Prop} {fuel : Nat} {listed : Array Bool} {a : Act} {w : World} {i : Nat} {o : Oper} {rs : List Nat} (ho : ops[i]? = some o) (hgd : o.guard = none) (t : TypeId) (x y : Operand)
    (hop : o.op = .store t x y) (w' : World) (hr : (Instr.storeAt t (a.eval x) (a.eval y)).run Try.prog w = .ok () w') (hrest : AllReadyH Try.prog md ops Q S fuel listed a w rs)
    (h : S w' ∧ (S w' → wpAnyH Try.prog md ops Q S fuel (listed.setIfInBounds i true) (a.put o.dst undef) w')) : AllReadyH Try.prog md ops Q S fuel listed a w (i :: rs) := by
  refine AllReadyH.cons ho (fun K hK => ?_) hrest
  rw [if_pos (by simp [Region.wanted, hgd])]
  unfold Oper.wp execOp
  simp only [hop, Sem.run_bind, hr, Result.andThen_ok, Sem.run_pure]
  exact hK.out _ _ h.1 h.2
theorem step_load {md : Region.Mode} {ops : Array Oper} {Q : Exit → Act → World → Prop} {S : World → Prop} {fuel : Nat} {listed : Array Bool} {a : Act} {w : World} {i : Nat} {o : Oper} {rs : List Nat} (ho : ops[i]? = some o) (hgd : o.guard = none) (t : TypeId) (x : Operand)
    (hop : o.op = .load t x) (v' : Value) (hr : (Instr.loadAt t (a.eval x)).run Try.prog w = .ok v' w) (hrest : AllReadyH Try.prog md ops Q S fuel listed a w rs)
    (h : S w ∧ (S w → wpAnyH Try.prog md ops Q S fuel (listed.setIfInBounds i true) (a.put o.dst v') w)) : AllReadyH Try.prog md ops Q S fuel listed a w (i :: rs) := by
  refine AllReadyH.cons ho (fun K hK => ?_) hrest
  rw [if_pos (by simp [Region.wanted, hgd])]
  unfold Oper.wp execOp
  simp only [hop, Sem.run_bind, hr, Result.andThen_ok]
  exact hK.out _ _ h.1 h.2
theorem rangeAt_row {w : World} {g : Nat} {cs : List Value} {t : TypeId} (h : w.heap[g]? = some (.cells cs.toArray t (0, 0))) : w.rangeAt g 0 cs := fun j v hv => by
  rw [Nat.zero_add, cell_of_row w g j _ t (0, 0) h]; simpa using hv
theorem rangeAt_tail {w : World} {g : Nat} {p : Nat × List UInt8} {t : TypeId} (h : w.heap[g]? = some (.cells (S.pc p).toArray t (0, 0))) : w.rangeAt g 1 (S.v8l p.2) := fun j v hv => by
  rw [cell_of_row w g _ _ t (0, 0) h, Nat.add_comm]
  simpa [S.pc] using hv
end Go.Proofs.Ytjnbjgkcliaipaa
