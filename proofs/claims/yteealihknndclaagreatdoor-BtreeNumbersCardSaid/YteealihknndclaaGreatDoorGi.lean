/- Runs of single operations on sectors and writes: built, laid, loaded, stored. -/
/- Write: the write is pending, behind those that are, or it is refused, or the disk is stopped. -/
import Derived.Test.YteealihknndclaaGreatDoorGg
import Derived.Great.BuildSlice
import Derived.Deep.WholeRow
namespace Go.Proofs.YteealihknndclaaGreatDoor
open Go.RowKit
theorem lay_at (off : Nat) (v cs : Array Value) (k : Nat) : (v.zipIdx.foldl (fun cs (x : Value × Nat) => cs.setIfInBounds (off + x.2) x.1) cs)[k]? = if off ≤ k ∧ k < off + v.size ∧ k < cs.size then v[k - off]? else cs[k]? := by
 obtain ⟨_, h⟩ := Great.foldl_set off v.toList 0 cs
 have e : v.zipIdx.foldl (fun cs (x : Value × Nat) => cs.setIfInBounds (off + x.2) x.1) cs = (v.toList.zipIdx 0).foldl (fun cs (x : Value × Nat) => cs.setIfInBounds (off + x.2) x.1) cs := by
  rw [← Array.foldl_toList, Array.toList_zipIdx]
 rw [e, h k]
 simp
set_option maxRecDepth 100000 in
theorem built75 (n : Nat) (t : List UInt8) (ht : t.length = 128) : Tryz.prog.built 139 [(0, .int .i64 (n : Int)), (1, .agg (S.v8l t).toArray)] = some (S.pc (n, t)).toArray := by
 have h : ∀ parts, Tryz.prog.built 139 parts = Instr.fill ((#[(0, 1), (1, 128)] : Array (Nat × Nat))[·]?) (.int .i64 0 :: S.v8l (S.zeros 128)).toArray parts := fun parts => by
  obtain ⟨i, hi, hz, _, _⟩ := info_pair info75 zero75
  unfold Program.built
  rw [hi, Tryz.underlying139]
  simp only [hz]
  rfl
 rw [h]
 have hl : (S.v8l t).length = 128 := by rw [S.v8l_length, ht]
 have hz : (.int .i64 0 :: S.v8l (S.zeros 128)).toArray.size = 129 := by simp [S.v8l_length, S.zeros_length]
 unfold Instr.fill
 simp only [show (#[(0, 1), (1, 128)] : Array (Nat × Nat))[0]? = some (0, 1) from rfl]
 rw [if_neg (by simp [Value.cells])]
 unfold Instr.fill
 simp only [show (#[(0, 1), (1, 128)] : Array (Nat × Nat))[1]? = some (1, 128) from rfl]
 rw [if_neg (by simp [Value.cells, hl, S.v8l_length, S.zeros_length])]
 unfold Instr.fill
 congr 1
 apply Array.ext_getElem?
 intro k
 have c0 : (Value.int .i64 (n : Int)).cells = #[.int .i64 (n : Int)] := rfl
 have c1 : (Value.agg (S.v8l t).toArray).cells = (S.v8l t).toArray := rfl
 rw [c0, c1]
 have l1 := lay_at 1 (S.v8l t).toArray ((#[Value.int .i64 (n : Int)].zipIdx.foldl (fun cs (x : Value × Nat) => cs.setIfInBounds (0 + x.2) x.1) (.int .i64 0 :: S.v8l (S.zeros 128)).toArray)) k
 have l0 := lay_at 0 #[Value.int .i64 (n : Int)] (.int .i64 0 :: S.v8l (S.zeros 128)).toArray k
 refine l1.trans ?_
 have hs : (#[Value.int .i64 (n : Int)].zipIdx.foldl (fun cs (x : Value × Nat) => cs.setIfInBounds (0 + x.2) x.1) (.int .i64 0 :: S.v8l (S.zeros 128)).toArray).size = 129 := by
  rw [← hz]; simp
 rw [hs, l0, hz]
 simp only [S.pc, List.size_toArray, hl, List.getElem?_toArray]
 cases k with
 | zero => rw [if_neg (by omega), if_pos ⟨Nat.le_refl _, by simp, by omega⟩]; rfl
 | succ k =>
  rw [List.getElem?_cons_succ]
  by_cases hk : k < 128
  ·rw [if_pos ⟨by omega, by omega, by omega⟩]; rfl
  ·rw [if_neg (by omega), if_neg (by simp), List.getElem?_cons_succ, List.getElem?_eq_none (by rw [S.v8l_length, S.zeros_length]; omega), List.getElem?_eq_none (by omega)]
theorem build75 (n : Nat) (t : List UInt8) (ht : t.length = 128) (w : World) : (Instr.build 139 #[(0, .int .i64 (n : Int)), (1, .agg (S.v8l t).toArray)]).run Tryz.prog w = .ok (.agg (S.pc (n, t)).toArray) w :=
 run_build w 139 _ _ (built75 n t ht)
theorem buildSlice68 (p : Nat × List UInt8) (hp : p.2.length = 128) (w : World) : (Instr.buildSlice 89 1 #[(0, .agg (S.pc p).toArray)]).run Tryz.prog w = .ok (.slice (some ⟨w.heap.size, 0, none⟩) 1 1) (w.alloc (.cells (S.pc p).toArray 139)) := by
 obtain ⟨i, hi, hz, hs, _⟩ := info_pair info75 zero75
 refine run_buildSlice w 89 139 1 _ _ i _ Tryz.underlying89 hi hz (by rw [hs]; omega) (by rw [hs]; omega) ?_
 have h := Great.fill_whole (s := 129) (by omega) [.agg (S.pc p).toArray] ((Array.range (1 * i.size)).map ((Value.agg (.int .i64 0 :: S.v8l (S.zeros 128)).toArray).cells[· % (Value.agg (.int .i64 0 :: S.v8l (S.zeros 128)).toArray).cells.size]!)) (fun v hv => by
  simp only [List.mem_singleton] at hv
  subst hv
  show (S.pc p).toArray.size = 129
  rw [List.size_toArray, S.pc_length p hp]) (by simp [hs])
 rw [hs] at h ⊢
 refine h.trans ?_
 simp [Value.cells]
theorem alloc75 (w : World) : (Instr.alloc 139 true (.tuple #[])).run Tryz.prog w = .ok (.pointer (some ⟨w.heap.size, 0, none⟩)) (w.alloc (.cells (.int .i64 0 :: S.v8l (S.zeros 128)).toArray 139)) := by
 obtain ⟨i, hi, hz, _, _⟩ := info_pair info75 zero75
 simp [Instr.alloc, zeroValue, typeInfo, hi, hz, newVar, newRow, Value.cells]
theorem one75 (p : Nat × List UInt8) : (S.pc p).toArray.all (·.oneCell') = true := all_oneCell_toArray (S.pc_one p)
theorem store75 (p : Nat × List UInt8) (hp : p.2.length = 128) (w : World) (c : Array Value) (hc : c.size = 129) : (Instr.storeAt 139 (.pointer (some ⟨w.heap.size, 0, none⟩)) (.agg (S.pc p).toArray)).run Tryz.prog (w.alloc (.cells c 139)) = .ok () (w.alloc (.cells (S.pc p).toArray 139)) := by
 have h := run_storeVar_row (P := Tryz.prog) (w.alloc (.cells c 139)) w.heap.size 139 139 c (S.pc p).toArray (heap_alloc_new _ _) (by rw [size75, List.size_toArray, S.pc_length p hp]) (by rw [hc, List.size_toArray, S.pc_length p hp]) (one75 p)
 rw [World.setRow_alloc_new] at h
 simp only [Instr.storeAt, Instr.sureAddr, Sem.run_bind, Sem.run_pure, Result.andThen_ok, h]
theorem wpList_build_known {w : World} {ops : Array Oper} {rest : List Oper} {o : Oper} {a : Act} {Q : Exit → Act → World → Prop} (hgd : o.guard = none) (t : TypeId) (parts : List (Nat × Operand)) (ho : o.op = .build t parts.toArray) (v : Value)
  (hr : (Instr.build t (parts.map fun p => (p.1, a.eval p.2)).toArray).run Tryz.prog w = .ok v w) (h : wpList Tryz.prog ops Q rest (a.put o.dst v) w) : wpList Tryz.prog ops Q (o :: rest) a w :=
 wpList_plain hgd fun _ hK => by
  unfold Oper.wp execOp
  simp only [ho, Sem.run_bind, List.map_toArray, hr, Result.andThen_ok]
  exact hK _ _ h
theorem wpList_alloc_known {w : World} {ops : Array Oper} {rest : List Oper} {o : Oper} {a : Act} {Q : Exit → Act → World → Prop} (hgd : o.guard = none) (t : TypeId) (ho : o.op = .alloc t) (v : Value) (w' : World)
  (hr : (Instr.alloc t true (.tuple #[])).run Tryz.prog w = .ok v w') (h : wpList Tryz.prog ops Q rest (a.put o.dst v) w') : wpList Tryz.prog ops Q (o :: rest) a w :=
 wpList_plain hgd fun _ hK => by
  unfold Oper.wp execOp
  simp only [ho, Sem.run_bind, hr, Result.andThen_ok]
  exact hK _ _ h
theorem wpList_store_known {w : World} {ops : Array Oper} {rest : List Oper} {o : Oper} {a : Act} {Q : Exit → Act → World → Prop} (hgd : o.guard = none) (t : TypeId) (x y : Operand) (ho : o.op = .store t x y) (w' : World)
  (hr : (Instr.storeAt t (a.eval x) (a.eval y)).run Tryz.prog w = .ok () w') (h : wpList Tryz.prog ops Q rest (a.put o.dst undef) w') : wpList Tryz.prog ops Q (o :: rest) a w :=
 wpList_plain hgd fun _ hK => by
  unfold Oper.wp execOp
  simp only [ho, Sem.run_bind, hr, Result.andThen_ok, Sem.run_pure]
  exact hK _ _ h
theorem wpList_load_known {w : World} {ops : Array Oper} {rest : List Oper} {o : Oper} {a : Act} {Q : Exit → Act → World → Prop} (hgd : o.guard = none) (t : TypeId) (x : Operand) (ho : o.op = .load t x) (v : Value)
  (hr : (Instr.loadAt t (a.eval x)).run Tryz.prog w = .ok v w) (h : wpList Tryz.prog ops Q rest (a.put o.dst v) w) : wpList Tryz.prog ops Q (o :: rest) a w :=
 wpList_plain hgd fun _ hK => by
  unfold Oper.wp execOp
  simp only [ho, Sem.run_bind, hr, Result.andThen_ok]
  exact hK _ _ h
theorem step_buildSlice {md : Region.Mode} {ops : Array Oper} {Q : Exit → Act → World → Prop} {S : World → Prop} {fuel : Nat} {listed : Array Bool} {a : Act} {w : World} {i : Nat} {o : Oper} {rs : List Nat} (ho : ops[i]? = some o) (hgd : o.guard = none) (t : TypeId) (n : Nat) (parts : List (Nat × Operand))
  (hop : o.op = .buildSlice t n parts.toArray) (v' : Value) (w' : World) (hr : (Instr.buildSlice t n (parts.map fun p => (p.1, a.eval p.2)).toArray).run Tryz.prog w = .ok v' w') (hrest : AllReadyH Tryz.prog md ops Q S fuel listed a w rs)
  (h : S w' ∧ (S w' → wpAnyH Tryz.prog md ops Q S fuel (listed.setIfInBounds i true) (a.put o.dst v') w')) : AllReadyH Tryz.prog md ops Q S fuel listed a w (i :: rs) := by
 refine AllReadyH.cons ho (fun K hK => ?_) hrest
 rw [if_pos (by simp [Region.wanted, hgd])]
 unfold Oper.wp execOp
 simp only [hop, Sem.run_bind, List.map_toArray, hr, Result.andThen_ok]
 exact hK.out _ _ h.1 h.2
theorem step_store {md : Region.Mode} {ops : Array Oper} {Q : Exit → Act → World → Prop} {S : World → Prop} {fuel : Nat} {listed : Array Bool} {a : Act} {w : World} {i : Nat} {o : Oper} {rs : List Nat} (ho : ops[i]? = some o) (hgd : o.guard = none) (t : TypeId) (x y : Operand)
  (hop : o.op = .store t x y) (w' : World) (hr : (Instr.storeAt t (a.eval x) (a.eval y)).run Tryz.prog w = .ok () w') (hrest : AllReadyH Tryz.prog md ops Q S fuel listed a w rs)
  (h : S w' ∧ (S w' → wpAnyH Tryz.prog md ops Q S fuel (listed.setIfInBounds i true) (a.put o.dst undef) w')) : AllReadyH Tryz.prog md ops Q S fuel listed a w (i :: rs) := by
 refine AllReadyH.cons ho (fun K hK => ?_) hrest
 rw [if_pos (by simp [Region.wanted, hgd])]
 unfold Oper.wp execOp
 simp only [hop, Sem.run_bind, hr, Result.andThen_ok, Sem.run_pure]
 exact hK.out _ _ h.1 h.2
theorem step_load {md : Region.Mode} {ops : Array Oper} {Q : Exit → Act → World → Prop} {S : World → Prop} {fuel : Nat} {listed : Array Bool} {a : Act} {w : World} {i : Nat} {o : Oper} {rs : List Nat} (ho : ops[i]? = some o) (hgd : o.guard = none) (t : TypeId) (x : Operand)
  (hop : o.op = .load t x) (v' : Value) (hr : (Instr.loadAt t (a.eval x)).run Tryz.prog w = .ok v' w) (hrest : AllReadyH Tryz.prog md ops Q S fuel listed a w rs)
  (h : S w ∧ (S w → wpAnyH Tryz.prog md ops Q S fuel (listed.setIfInBounds i true) (a.put o.dst v') w)) : AllReadyH Tryz.prog md ops Q S fuel listed a w (i :: rs) := by
 refine AllReadyH.cons ho (fun K hK => ?_) hrest
 rw [if_pos (by simp [Region.wanted, hgd])]
 unfold Oper.wp execOp
 simp only [hop, Sem.run_bind, hr, Result.andThen_ok]
 exact hK.out _ _ h.1 h.2
theorem rangeAt_row {w : World} {g : Nat} {cs : List Value} {t : TypeId} (h : w.heap[g]? = some (.cells cs.toArray t (0, 0))) : w.rangeAt g 0 cs := fun j v hv => by
 rw [Nat.zero_add, cell_of_row w g j _ t (0, 0) h]; simpa using hv
theorem rangeAt_tail {w : World} {g : Nat} {p : Nat × List UInt8} {t : TypeId} (h : w.heap[g]? = some (.cells (S.pc p).toArray t (0, 0))) : w.rangeAt g 1 (S.v8l p.2) := fun j v hv => by
 rw [cell_of_row w g _ _ t (0, 0) h, Nat.add_comm]
 simpa [S.pc] using hv
end Go.Proofs.YteealihknndclaaGreatDoor
namespace Go.Proofs.YteealihknndclaaGreatDoor
open Go.RowKit
theorem write_stop (o : Ow) (d : S.Dk) (n : Nat) (ao : Option Addr) (cap : Nat) (w : World) (hd : DkIs w o d) (hn : n < d.safe.length) (hg : d.goes = false) :
  Calls Tryz.prog 151 #[o.ptr, .int .i64 (n : Int), .slice ao 128 cap] w fun e w' => e = .returned (.int .i64 13) ∧ ∃ o', DkIs w' o' d ∧ DkTo o w o' w' := by
 have HD := hide hd
 have E := S.Dk.inside_yes hn
 have T := hide (S.Dk.tried_no hg)
 clear hd hn
 go_enter Tryz.func151, Tryz.ntmps151
 go_wp2_with fail
 refine (has_any o d n w HD.out).mono ?_
 rintro e w1 ⟨rfl, rfl⟩
 go_wp2_with fail
 refine (works_any o d w HD.out).mono ?_
 rintro e w1 ⟨rfl, o1, h1, h2, _⟩
 rw [T.out] at h1
 have H1 := hide h1
 have H2 := hide h2
 clear h1 h2
 go_wp2
 go_ret
 exact ⟨rfl, o1, H1.out, H2.out⟩
theorem array73 (a : Option Addr) (cap : Nat) (w : World) : (Instr.arrayAt 137 (.slice a 128 cap)).run Tryz.prog w = .ok (.pointer a) w := by
 simp [Instr.arrayAt, run_underlying Tryz.underlying137]
theorem run_append_write (w : World) (v : Value) (p : S.Ws) (x : Nat × List UInt8) (g : Nat) (ty : TypeId) (hv : PRow w v p) (hx : x.2.length = 128) (hg : w.heap[g]? = some (.cells (S.pc x).toArray 139 (0, 0))) (hb : p.length ≤ 1000000) :
  ∃ v' w', (Builtin.append_ #[89, 89] ty #[v, .slice (some ⟨g, 0, none⟩) 1 1]).run Tryz.prog w = .ok v' w' ∧ (PRow w' v' (p ++ [x]) ∧ w.grownBy w' v.ownBlock ∧ ∀ k, v'.ownBlock = some k → v.ownBlock = some k ∨ w.heap.size ≤ k) := by
 obtain ⟨i, hi, hz0, hz1, hz2⟩ := info_pair info75 zero75
 have hl := S.pc_length x hx
 have hzc : (Value.agg (.int .i64 0 :: S.v8l (S.zeros 128)).toArray).cells.size = 129 := by simp [Value.cells, S.v8l_length, S.zeros_length]
 have hc : ∀ j u, (S.pc x)[j]? = some u → w.cell? ((⟨g, 0, none⟩ : Addr).add j) = some u := fun j u hu => by
  rw [Addr.add_lit, Nat.zero_add, cell_of_row w g j _ 139 (0, 0) hg]
  simpa using hu
 obtain ⟨v', w', hr, ho, hgr, _⟩ := run_append_own (P := Tryz.prog) w 0 89 ty 139 i _ 129 136 Tryz.underlying89 hi hz0 hz1 hz2 hzc (by omega) v p.length (S.pcs p) hv ⟨g, 0, none⟩ 1 1 (S.pc x) (by omega) hc (S.pc_one x) (by simp only [maxLen]; omega) (by omega) (Nat.zero_le _)
 refine ⟨v', w', hr, ?_, hgr, fun k hk => ?_⟩
 ·unfold PRow
  rw [S.pcs_app, List.length_append, List.length_singleton]
  simpa [S.pcs] using ho
 rcases hv.2 with ⟨rfl, h3⟩ | ⟨g', cap, cur, rfl, _, h4, h5, _, h6, h7⟩
 ·obtain ⟨v2, w2, hr2, ho2, _, _⟩ := run_append_own (P := Tryz.prog) w w.heap.size 89 ty 139 i _ 129 136 Tryz.underlying89 hi hz0 hz1 hz2 hzc (by omega) (.slice none 0 0) 0 [] (World.ownsRow_nil w w.heap.size 139 129) ⟨g, 0, none⟩ 1 1 (S.pc x) (by omega) hc (S.pc_one x) (by simp only [maxLen]; omega) (by omega) (Nat.le_refl _)
  rw [hr] at hr2
  simp only [Result.ok.injEq] at hr2
  obtain ⟨rfl, rfl⟩ := hr2
  exact Or.inr (ho2.lt k hk).1
 ·by_cases hroom : p.length + 1 ≤ cap
  ·have hr2 := run_append_room (P := Tryz.prog) w 89 ty 139 i Tryz.underlying89 hi g' p.length cap cur h4 ⟨g, 0, none⟩ 1 1 (S.pc x) (by rw [hz1]; omega) hc (S.pc_one x) hroom (by rw [hz1]; omega)
   rw [hr] at hr2
   simp only [Result.ok.injEq] at hr2
   rw [hr2.1] at hk
   exact Or.inl hk
  ·have holds := World.ownsRow.cells hv (g := g') rfl
   have hr2 := run_append_grow (P := Tryz.prog) w 89 ty 139 i _ Tryz.underlying89 hi hz0 ⟨g', 0, none⟩ p.length cap (S.pcs p) (by rw [hv.1, hz1]) holds ⟨g, 0, none⟩ 1 1 (S.pc x) (by rw [hz1]; omega) hc (by omega) (by omega) (growslice_fits (by omega) (by rw [hz2]; omega))
   rw [hr] at hr2
   simp only [Result.ok.injEq] at hr2
   rw [hr2.1] at hk
   simp only [Value.ownBlock, Option.some.injEq] at hk
   exact Or.inr (by omega)
structure Mid (Z : World) (o : Ow) (v2 : Value) (d : S.Dk) (n : Nat) (t : List UInt8) : Prop where
 row : Z.heap[o.g]? = some (.cells #[.slice (some ⟨o.gs, 0, none⟩) d.safe.length o.cs, .slice (some ⟨o.ge, 0, none⟩) d.safe.length o.ce, v2, .bool d.left.isSome, .int .i64 o.lf] 91 (0, 0))
 safe : SecAt Z o.gs d.safe
 seen : SecAt Z o.ge d.seen
 pend : PRow Z v2 (d.pend ++ [(n, t)])
 psep : ∀ k, v2.ownBlock = some k → k ≠ o.g ∧ k ≠ o.gs ∧ k ≠ o.ge
theorem Mid.of {X Y : World} {o : Ow} {d : S.Dk} {n : Nat} {t : List UInt8} {v2 : Value} (h : DkIs X o d) (hu : PRow Y v2 (d.pend ++ [(n, t)])) (hg : X.grownBy Y o.pv.ownBlock) (ho : ∀ k, v2.ownBlock = some k → o.pv.ownBlock = some k ∨ X.heap.size ≤ k) :
  Mid (Y.setCell ⟨o.g, 2, none⟩ v2) o v2 d n t ∧ Chg o.has X (Y.setCell ⟨o.g, 2, none⟩ v2) := by
 have hlt := h.lt
 have hrow : Y.heap[o.g]? = _ := (hg.block o.g (hlt _ (Or.inl rfl)) (fun e => (h.psep _ e.symm).1 rfl)).trans h.row
 have hc : Chg o.has X Y := (Chg.refl _ _).grown hg (fun k _ e => Or.inr (Or.inr (Or.inr e)))
 have hps : ∀ k, v2.ownBlock = some k → k ≠ o.g ∧ k ≠ o.gs ∧ k ≠ o.ge := fun k hk => by
  rcases ho k hk with e | e
  ·exact h.psep k e
  ·have h1 := hlt _ (Or.inl rfl)
   have h2 := hlt _ (Or.inr (Or.inl rfl))
   have h3 := hlt _ (Or.inr (Or.inr (Or.inl rfl)))
   omega
 have hs : SecAt Y o.gs d.safe := h.safe.kept (hg.block _ (hlt _ (Or.inr (Or.inl rfl))) (fun e => (h.psep _ e.symm).2.1 rfl))
 have he : SecAt Y o.ge d.seen := h.seen.kept (hg.block _ (hlt _ (Or.inr (Or.inr (Or.inl rfl)))) (fun e => (h.psep _ e.symm).2.2 rfl))
 have hco : Chg (fun k => k = o.g) Y (Y.setCell ⟨o.g, 2, none⟩ v2) := (Chg.refl (fun k => k = o.g) Y).setCell o.g 2 _ (fun _ => rfl)
 refine ⟨⟨?_, hs.chg hco (fun e => h.sep.1 e.symm), he.chg hco (fun e => h.sep.2.1 e.symm), hu.chg hco (fun k hk => (hps k hk).1), hps⟩, hc.setCell o.g 2 _ (fun _ => Or.inl rfl)⟩
 exact heap_setCell_same _ _ 2 _ _ v2 hrow
theorem Mid.drew {Z : World} {o : Ow} {d : S.Dk} {n : Nat} {t : List UInt8} {v2 : Value} (m : Mid Z o v2 d n t) : Mid Z.drew o v2 d n t := ⟨m.row, m.safe.kept rfl, m.seen.kept rfl, m.pend.kept (fun _ _ => rfl), m.psep⟩
theorem Mid.fin {Z : World} {o : Ow} {d : S.Dk} {n : Nat} {t : List UInt8} {v2 : Value} (m : Mid Z o v2 d n t) {w0 : World} (h : DkIs w0 o d) (hn : n < d.safe.length) (ht : t.length = 128) :
  DkIs (Z.setCells o.ge (n * 128) (S.v8l t)) { o with pv := v2 } (d.write n t) := by
 have hc : Chg (fun k => k = o.ge) Z (Z.setCells o.ge (n * 128) (S.v8l t)) := Chg.setCells (p := fun k => k = o.ge) o.ge (fun _ => rfl) _ _ (Chg.refl _ _)
 have e : (d.write n t).seen = d.seen.set n t := S.over_snoc _ _ _ _
 refine ⟨hc.row m.row h.sep.2.1, m.safe.chg hc h.sep.2.2, ?_, m.pend.chg hc (fun k hk => (m.psep k hk).2.2), h.ok.write n t hn ht, h.left, h.sep, m.psep, h.caps⟩
 rw [e]
 exact m.seen.store n (by rw [S.Dk.seen_length]; exact hn) t ht
set_option maxHeartbeats 1600000 in
set_option maxRecDepth 100000 in
theorem write_yes (o : Ow) (d : S.Dk) (n : Nat) (v : Value) (t : List UInt8) (w : World) (hd : DkIs w o d) (hn : n < d.safe.length) (hg : d.goes = true) (ht : t.length = 128) (hb : d.pend.length ≤ 1000000) (hv : ∀ W, Chg (fun k => k = o.g) w W → SliceAt W v t) :
  Calls Tryz.prog 151 #[o.ptr, .int .i64 (n : Int), v] w fun e w' => e = .returned (.int .i64 0) ∧ ∃ o', DkIs w' o' (d.went.write n t) ∧ DkTo o w o' w' := by
 obtain ⟨ao, len, cap, rfl, hlen, -⟩ := (hv w (Chg.refl _ _)).form
 rw [ht] at hlen
 subst hlen
 have HD := hide hd
 have E := S.Dk.inside_yes hn
 have T := hide (S.Dk.tried_yes hg)
 have HV := hide hv
 have HN := hide hn
 have HT := hide ht
 have HB := hide hb
 clear hd hn hv ht hb
 go_enter Tryz.func151, Tryz.ntmps151
 go_wp2_with fail
 refine (has_any o d n w HD.out).mono ?_
 rintro e w1 ⟨rfl, rfl⟩
 go_wp2_with fail
 refine (works_any o d w HD.out).mono ?_
 rintro e w1 ⟨rfl, o1, h1, h2, h3⟩
 rw [T.out] at h1
 obtain ⟨b, off, hao, hbl, -, hcell⟩ := (HV.out w1 h3).src (by rw [HT.out]; omega)
 subst hao
 have hld := run_loadAt_mid (P := Tryz.prog) w1 b off 137 (S.v8l t) _ (fun j x hx => by obtain ⟨rfl, hj⟩ := S.v8l_at _ j x hx; exact hcell j hj) Tryz.underlying137 rfl (by rw [size73, S.v8l_length, HT.out])
 have hbd := build75 n t HT.out
 have hal := alloc75
 have har : ∀ W : World, (Instr.arrayAt 137 (.slice (some ⟨b, off, none⟩) 128 cap)).run Tryz.prog W = .ok (.pointer (some ⟨b, off, none⟩)) W := fun W => array73 _ _ W
 have hst := store75 (n, t) HT.out w1 (.int .i64 0 :: S.v8l (S.zeros 128)).toArray (by simp [S.v8l_length, S.zeros_length])
 have H1 := hide h1
 have H2 := hide h2
 have HBL := hide hbl
 obtain ⟨PCL, hPCL⟩ : ∃ PCL, PCL = S.pc (n, t) := ⟨_, rfl⟩
 obtain ⟨VL, hVL⟩ : ∃ VL, VL = S.v8l t := ⟨_, rfl⟩
 obtain ⟨ZA, hZA⟩ : ∃ ZA, ZA = (Value.int .i64 0 :: S.v8l (S.zeros 128)).toArray := ⟨_, rfl⟩
 rw [← hPCL, ← hVL] at hbd
 rw [← hVL] at hld
 rw [← hZA, ← hPCL] at hst
 simp only [← hZA] at hal
 have hbs := buildSlice68 (n, t) HT.out
 simp only [← hPCL] at hbs
 have HPCL := hide hPCL
 have HVL := hide hVL
 have hpl : PCL.length = 129 := by rw [hPCL]; exact S.pc_length _ HT.out
 have HPL := hide hpl
 clear h1 h2 h3 hcell hbl hPCL hVL hZA hpl
 go_wp2_with (refine wpList_load_known rfl 137 (.tmp 22) rfl _ hld ?_; refine wpList_build_known rfl 139 [(0, Operand.tmp 20), (1, Operand.tmp 23)] rfl (.agg PCL.toArray) (hbd w1) ?_; refine wpList_alloc_known rfl 139 rfl (.pointer (some ⟨w1.heap.size, 0, none⟩)) (w1.alloc (.cells ZA 139)) (hal _) ?_; refine wpList_store_known rfl 139 (.tmp 7) (.tmp 24) rfl (w1.alloc (.cells PCL.toArray 139)) hst ?_)
 clear hld hbd hal hst har HV HBL
 simp only [Act.put, List.setIfInBounds_toArray, List.set_cons_zero, List.set_cons_succ, Ow.ptr]
 rw [← H2.out.g]
 have HD2 : Hid (DkIs (w1.alloc (.cells PCL.toArray 139)) o1 d.went) := H1.out.below ((Below.refl _ _).alloc (Nat.le_refl _) _)
 have HC2 : Hid (Chg o.has w (w1.alloc (.cells PCL.toArray 139))) := H2.out.chg.alloc _
 have HR2 : Hid ((w1.alloc (.cells PCL.toArray 139)).heap[w1.heap.size]? = some (.cells PCL.toArray 139 (0, 0))) := heap_alloc_new _ _
 have HO1 : Hid (∀ k, o1.has k → k < w1.heap.size) := H1.out.lt
 have HOW : Hid (∀ k, o1.has k → o.has k ∨ w.heap.size ≤ k) := H2.out.own
 have HG := hide H2.out.g
 have HS1 := hide H2.out.chg.size
 generalize w1.alloc (.cells PCL.toArray 139) = w2 at *
 generalize w1.heap.size = gw at *
 clear H1 H2
 obtain ⟨aop, cp, hpv⟩ := HD2.out.pend.form
 have HPV := hide hpv
 clear hpv
 refine wp_region_noPanic ?_
 refine wp_region_held_drew (S := (fun W => W.heap[gw]? = some (.cells PCL.toArray 139 (0, 0)))) follows HR2.out (fun hHeld => ?_)
 refine tq 0 ?_
 simp only [Act.put, uB, uC, uD]
 refine tq 1 ?_
 simp only [Act.put, uB, uC, uD]
 refine tq 2 ?_
 simp only [Act.put, uB, uC, uD]
 refine tq 3 ?_
 simp only [Act.put, uB, uC, uD]
 refine wpAnyH_take (i := 5) (oi := ⟨_, _, _, _, _, _⟩) (v := .agg PCL.toArray) rfl (by kernel_rfl) (by kernel_rfl) (by kernel_rfl) (fun _ _ _ h => h) (yieldsIf_load_mid (by kernel_rfl) 139 (.tmp 7) rfl gw 0 rfl PCL _ (fun W hW => rangeAt_row hW) Tryz.underlying139 rfl (by rw [size75, HPL.out])) (by assumption) ?_
 simp only [Act.put, uB, uC, uD]
 refine rdy [4, 6] ?_
 refine AllReadyH.cons (o := ⟨_, _, _, _, _, _⟩) rfl (fun K hK => ?_) ?_
 focus
  have c2 := (cells5 HD2.out.row).2.2.1
  rw [HPV.out] at c2
  go_simp
  refine hK.out _ _ (by assumption) (fun hHeld => ?_)
  clear hK K c2
  try simp only [Act.put, uB, uC, uD]
  refine rdy [6] ?_
  refine step_buildSlice (o := ⟨_, _, _, _, _, _⟩) rfl rfl 89 1 [(0, Operand.tmp 30)] rfl _ _ (hbs _) AllReadyH.nil ⟨(heap_alloc_old _ _ (block_lt_of_row HR2.out)).trans HR2.out, fun hHeld => ?_⟩
  try simp only [Act.put, uB, uC, uD]
  generalize hX : w2.drew.alloc (.cells PCL.toArray 139) = X
  have bX : Below w2.heap.size w2 X := by rw [← hX]; exact (((Chg.refl (fun _ => False) w2).drew).alloc (.cells PCL.toArray 139)).below _ (Nat.le_refl _) (fun _ _ e => e)
  have DX : Hid (DkIs X o1 d.went) := HD2.out.below bX
  have GX : Hid (X.heap[gw]? = some (.cells PCL.toArray 139 (0, 0))) := (bX.block gw (block_lt_of_row HR2.out)).trans HR2.out
  have NX : Hid (X.heap[w2.heap.size]? = some (.cells (S.pc (n, t)).toArray 139 (0, 0))) := by rw [← hX, ← HPCL.out]; exact heap_alloc_new _ _
  have CX : Hid (Chg o.has w X) := HC2.out.trans (q := fun _ => False) (Chg.ofBelow' bX) (fun _ _ e => e.elim)
 rotate_left
 focus
  refine step_buildSlice (o := ⟨_, _, _, _, _, _⟩) rfl rfl 89 1 [(0, Operand.tmp 30)] rfl _ _ (hbs _) AllReadyH.nil ⟨(heap_alloc_old _ _ (block_lt_of_row HR2.out)).trans HR2.out, fun hHeld => ?_⟩
  simp only [Act.put, uB, uC, uD]
  refine r1 4 fun K hK => ?_
  have c2 := (cells5 ((heap_alloc_old _ (.cells PCL.toArray 139) (block_lt_of_row HD2.out.row)).trans HD2.out.row)).2.2.1
  rw [HPV.out] at c2
  go_simp
  refine hK.out _ _ (by assumption) (fun hHeld => ?_)
  clear hK K c2
  try simp only [Act.put, uB, uC, uD]
  try simp only [Act.put, uB, uC, uD]
  generalize hX : (w2.alloc (.cells PCL.toArray 139)).drew = X
  have bX : Below w2.heap.size w2 X := by rw [← hX]; exact ((Chg.refl (fun _ => False) w2).alloc (.cells PCL.toArray 139)).drew.below _ (Nat.le_refl _) (fun _ _ e => e)
  have DX : Hid (DkIs X o1 d.went) := HD2.out.below bX
  have GX : Hid (X.heap[gw]? = some (.cells PCL.toArray 139 (0, 0))) := (bX.block gw (block_lt_of_row HR2.out)).trans HR2.out
  have NX : Hid (X.heap[w2.heap.size]? = some (.cells (S.pc (n, t)).toArray 139 (0, 0))) := by rw [← hX, ← HPCL.out]; exact heap_alloc_new _ _
  have CX : Hid (Chg o.has w X) := HC2.out.trans (q := fun _ => False) (Chg.ofBelow' bX) (fun _ _ e => e.elim)
 all_goals
  clear bX hX hHeld
  refine rdy [7] ?_
  have PX := DX.out.pend
  rw [HPV.out] at PX
  refine step_append (o := ⟨_, _, _, _, _, _⟩) rfl rfl _ _ 89 89 rfl _ _ rfl rfl (run_append_write X _ d.went.pend (n, t) w2.heap.size 89 PX HT.out NX.out HB.out) AllReadyH.nil ?_
  rintro v2 Y ⟨hu, hgr, ho⟩
  rw [← HPV.out] at hgr ho
  obtain ⟨ao2, c3, hv2⟩ := hu.form
  generalize hLL : List.length (d.went.pend ++ _) = LL at hv2
  have MM := hide (Mid.of DX.out hu hgr ho)
  have OV : Hid (∀ k, v2.ownBlock = some k → o.has k ∨ w.heap.size ≤ k) := fun k hk => by rcases ho k hk with e | e; exact HOW.out k (Or.inr (Or.inr (Or.inr e))); exact Or.inr (Nat.le_trans CX.out.size e)
  have SY : Y.heap[gw]? = some (.cells PCL.toArray 139 (0, 0)) := (hgr.block gw (block_lt_of_row GX.out) (fun e => absurd (HO1.out gw (Or.inr (Or.inr (Or.inr e.symm)))) (Nat.lt_irrefl _))).trans GX.out
  have RY : Hid (Y.heap[o1.g]? = _) := (hgr.block o1.g (block_lt_of_row DX.out.row) (fun e => (DX.out.psep _ e.symm).1 rfl)).trans DX.out.row
  subst hv2
  clear hu hgr ho hLL PX
  refine ⟨SY, fun hHeld => ?_⟩
  have SYH := hide SY
  clear SY
  simp only [Act.put, uB, uC, uD]
  refine tq 8 ?_
  simp only [Act.put, uB, uC, uD]
  refine tq 9 ?_
  simp only [Act.put, uB, uC, uD]
  refine r1 10 fun K hK => ?_
  have c2 := (cells5 RY.out).2.2.1
  have f2 := frozen_of_row _ _ 2 _ _ RY.out
  go_simp
  have SZ : (Y.setCell ⟨o1.g, 2, none⟩ (.slice ao2 LL c3)).heap[gw]? = some (.cells PCL.toArray 139 (0, 0)) := (heap_setCell_other _ _ _ _ (fun e => by have := HO1.out o1.g (Or.inl rfl); have e' : gw = o1.g := e; omega)).trans SYH.out
  refine hK.out _ _ SZ (fun hHeld => ?_)
  clear hK K c2 f2
  try simp only [Act.put, uB, uC, uD]
  refine wpAnyH_done (by kernel_rfl) ?_ _
  refine NoPanic.normal ?_
  clear hHeld RY SYH DX NX GX
  have SZH := hide SZ
  clear SZ
  generalize Y.setCell ⟨o1.g, 2, none⟩ _ = Z at MM SZH ⊢
  have HM := hide MM.out.1
  have CZ : Hid (Chg o.has w Z) := CX.out.trans MM.out.2 (fun j hj e => by rcases HOW.out j e with h' | h'; exact h'; omega)
  clear MM CX
  go_wp2_with fail
  have q1 : (0 : Int) ≤ (n : Int) := by omega
  have q2 : (n : Int) < (d.went.safe.length : Int) := by have : n < d.went.safe.length := HN.out; omega
  refine wp_region_noPanic ?_
  refine wp_region_held_drew (S := (fun W => W.heap[gw]? = some (.cells PCL.toArray 139 (0, 0)) ∧ W.cell? ⟨o1.g, 1, none⟩ = some (.slice (some ⟨o1.ge, 0, none⟩) d.went.safe.length o1.ce))) follows ⟨SZH.out, (cells5 HM.out.row).2.1⟩ (fun hHeld => ?_)
  have HMd := hide HM.out.drew
  have CZd := hide CZ.out.drew
  have SZd : Hid (Z.drew.heap[gw]? = some (.cells PCL.toArray 139 (0, 0))) := SZH.out
  clear HM CZ SZH
  generalize Z.drew = Z1 at HMd CZd SZd hHeld ⊢
  have HM := HMd; have CZ := CZd; have SZH := SZd; clear HMd CZd SZd
  refine tq 0 ?_
  simp only [Act.put, uB, uC, uD]
  refine tq 1 ?_
  simp only [Act.put, uB, uC, uD]
  refine tq 2 ?_
  simp only [Act.put, uB, uC, uD]
  refine tk 3 ?_ rfl (Or.inl ⟨by rfl, ?_⟩) ?_
  rotate_left
  ·intro w hSw
   have c1 := hSw.2
   clear hSw
   go_simp
   all_goals with_reducible rfl
  simp only [Act.put, uB, uC, uD]
  refine tq 4 ?_
  simp only [Act.put, uB, uC, uD]
  refine tq 5 ?_
  simp only [Act.put, uB, uC, uD]
  refine wpAnyH_take (i := 6) (oi := ⟨_, _, _, _, _, _⟩) (v := .agg VL.toArray) rfl (by kernel_rfl) (by kernel_rfl) (by kernel_rfl) (fun _ _ _ h => h) (yieldsIf_load_mid (by kernel_rfl) 137 (.tmp 40) rfl gw 1 rfl VL _ (fun W hW => by rw [HVL.out]; exact rangeAt_tail (p := (n, t)) (by rw [← HPCL.out]; exact hW.1)) Tryz.underlying137 rfl (by rw [size73, HVL.out, S.v8l_length, HT.out])) (by assumption) ?_
  simp only [Act.put, uB, uC, uD]
  refine tq 7 ?_
  simp only [Act.put, uB, uC, uD]
  refine rdy [8] ?_
  have hth : Z1.there o1.ge (n * 128) VL.toArray.size := by rw [List.size_toArray, HVL.out, S.v8l_length, HT.out]; exact HM.out.seen.there n (by rw [S.Dk.seen_length]; exact HN.out)
  have HC7 : Hid (Chg (fun k => k = o1.ge) Z1 (Z1.setCells o1.ge (n * 128) VL)) := Chg.setCells (p := fun k => k = o1.ge) o1.ge (fun _ => rfl) _ _ (Chg.refl _ _)
  refine step_store (o := ⟨_, _, _, _, _, _⟩) rfl rfl 137 (.tmp 42) (.tmp 41) rfl (Z1.setCells o1.ge (n * 128) VL) (run_storeAt_mid Z1 o1.ge (n * 128) 137 VL.toArray hth (by rw [size73, List.size_toArray, HVL.out, S.v8l_length, HT.out]) (by rw [HVL.out]; exact v8l_one' t)) AllReadyH.nil ⟨⟨HC7.out.row SZH.out (fun e => by have := HO1.out o1.ge (Or.inr (Or.inr (Or.inl rfl))); omega), (cells5 (HC7.out.row HM.out.row HD2.out.sep.2.1)).2.1⟩, fun hHeld => ?_⟩
  refine wpAnyH_done (by kernel_rfl) ?_ _
  refine NoPanic.normal ?_
  simp only [Act.put]
  clear hHeld hth SZH
  have FIN : Hid (DkIs (Z1.setCells o1.ge (n * 128) VL) { o1 with pv := .slice ao2 LL c3 } (d.went.write n t)) := by rw [HVL.out]; exact HM.out.fin HD2.out HN.out HT.out
  have TO : Hid (DkTo o w { o1 with pv := .slice ao2 LL c3 } (Z1.setCells o1.ge (n * 128) VL)) := ⟨HG.out, CZ.out.trans HC7.out (fun j hj e => by have e' : j = o1.ge := e; rcases HOW.out j (Or.inr (Or.inr (Or.inl e'))) with h' | h'; exact h'; omega), fun k hk => by rcases hk with h' | h' | h' | h'; exact HOW.out k (Or.inl h'); exact HOW.out k (Or.inr (Or.inl h')); exact HOW.out k (Or.inr (Or.inr (Or.inl h'))); exact OV.out k h'⟩
  clear HC7
  go_wp2_with fail
  go_ret
  exact ⟨rfl, _, FIN.out, TO.out⟩
structure Loose (w : World) (o : Ow) (d : S.Dk) (ss es : List (List UInt8)) : Prop where
 row : w.heap[o.g]? = some (.cells #[.slice (some ⟨o.gs, 0, none⟩) d.safe.length o.cs, .slice (some ⟨o.ge, 0, none⟩) d.safe.length o.ce, o.pv, .bool d.left.isSome, .int .i64 o.lf] 91 (0, 0))
 safe : SecAt w o.gs ss
 sl : ss.length = d.safe.length
 seen : SecAt w o.ge es
 el : es.length = d.safe.length
 pend : PRow w o.pv d.pend
theorem DkIs.loose {w : World} {o : Ow} {d : S.Dk} (h : DkIs w o d) : Loose w o d d.safe d.seen := ⟨h.row, h.safe, rfl, h.seen, S.Dk.seen_length _, h.pend⟩
theorem Loose.chg {p : Nat → Prop} {w W : World} {o : Ow} {d : S.Dk} {ss es : List (List UInt8)} (h : Loose w o d ss es) (hc : Chg p w W) (hp : ∀ k, o.has k → ¬ p k) : Loose W o d ss es :=
 ⟨hc.row h.row (hp _ (Or.inl rfl)), h.safe.chg hc (hp _ (Or.inr (Or.inl rfl))), h.sl, h.seen.chg hc (hp _ (Or.inr (Or.inr (Or.inl rfl)))), h.el, h.pend.chg hc (fun k hk => hp k (Or.inr (Or.inr (Or.inr hk))))⟩
theorem Loose.below {w W : World} {o : Ow} {d : S.Dk} {ss es : List (List UInt8)} (h : Loose w o d ss es) (hb : Below w.heap.size w W) : Loose W o d ss es := h.chg (p := fun _ => False) (Chg.ofBelow' hb) (fun _ _ e => e)
theorem Loose.lt {w : World} {o : Ow} {d : S.Dk} {ss es : List (List UInt8)} (h : Loose w o d ss es) : ∀ k, o.has k → k < w.heap.size := by
 rintro k (rfl | rfl | rfl | hk)
 ·exact block_lt_of_row h.row
 ·exact h.safe.lt
 ·exact h.seen.lt
 ·exact h.pend.lt hk
theorem Loose.put {w w0 : World} {o : Ow} {d : S.Dk} {ss es : List (List UInt8)} (h : Loose w o d ss es) (hd : DkIs w0 o d) (p : Nat) (hp : p < d.safe.length) (t : List UInt8) (ht : t.length = 128) : Loose (w.setCells o.gs (p * 128) (S.v8l t)) o d (ss.set p t) es := by
 have hc : Chg (fun k => k = o.gs) w (w.setCells o.gs (p * 128) (S.v8l t)) := Chg.setCells (p := fun k => k = o.gs) o.gs (fun _ => rfl) _ _ (Chg.refl _ _)
 exact ⟨hc.row h.row hd.sep.1, h.safe.store p (by rw [h.sl]; exact hp) t ht, by rw [List.length_set]; exact h.sl, h.seen.chg hc (fun e => hd.sep.2.2 e.symm), h.el, h.pend.chg hc (fun k hk => (hd.psep k hk).2.1)⟩
theorem cell_place {w : World} {g : Nat} {p : Nat × List UInt8} {t : TypeId} (h : w.heap[g]? = some (.cells (S.pc p).toArray t (0, 0))) : w.cell? ⟨g, 0, none⟩ = some (.int .i64 (p.1 : Int)) := by
 rw [cell_of_row w g 0 _ t (0, 0) h]; rfl
theorem load75 {w : World} {g c n : Nat} {p : S.Ws} (h : PRow w (.slice (some ⟨g, 0, none⟩) n c) p) (hp : ∀ k, k < p.length → (S.Ws.nth p k).2.length = 128) (k : Nat) (hk : k < p.length) : (Instr.loadAt 139 (.pointer (some ⟨g, k * 129, none⟩))).run Tryz.prog w = .ok (.agg (S.pc (S.Ws.nth p k)).toArray) w :=
 run_loadAt_mid w g (k * 129) 139 _ _ (h.range hp k hk) Tryz.underlying139 rfl (by rw [size75, S.pc_length _ (hp k hk)])
theorem flush_stop (o : Ow) (d : S.Dk) (w : World) (hd : DkIs w o d) (hg : d.goes = false) :
  Calls Tryz.prog 111 #[o.ptr] w fun e w' => e = .returned (.int .i64 13) ∧ ∃ o', DkIs w' o' d ∧ DkTo o w o' w' := by
 have HD := hide hd
 have T := hide (S.Dk.tried_no hg)
 clear hd
 go_enter Tryz.func111, Tryz.ntmps111
 go_wp2_with fail
 refine (works_any o d w HD.out).mono ?_
 rintro e w1 ⟨rfl, o1, h1, h2, _⟩
 rw [T.out] at h1
 have H1 := hide h1
 have H2 := hide h2
 clear h1 h2
 go_wp2
 go_ret
 exact ⟨rfl, o1, H1.out, H2.out⟩
theorem flush_fin {w w1 : World} {o : Ow} {d : S.Dk} (h : DkIs w1 o d) (hl : Loose w o d (S.overTo d.safe d.pend d.pend.length) d.seen) (hc : Chg o.has w1 w) :
  DkIs (w.setCell ⟨o.g, 2, none⟩ (.slice none 0 0)) { o with pv := .slice none 0 0 } d.flush ∧ DkTo o w1 { o with pv := .slice none 0 0 } (w.setCell ⟨o.g, 2, none⟩ (.slice none 0 0)) := by
 have R := heap_setCell_same _ _ 2 _ _ (.slice none 0 0) hl.row
 have hco : Chg (fun k => k = o.g) w (w.setCell ⟨o.g, 2, none⟩ (.slice none 0 0)) := (Chg.refl (fun k => k = o.g) w).setCell o.g 2 _ (fun _ => rfl)
 have hn : d.flush.safe.length = d.safe.length := S.Dk.seen_length d
 refine ⟨⟨by rw [hn]; exact R, hl.safe.chg hco (fun e => h.sep.1 e.symm), hl.seen.chg hco (fun e => h.sep.2.1 e.symm), prow_nil _, h.ok.flush, h.left, h.sep, fun k hk => (by cases hk), by rw [hn]; exact h.caps⟩, rfl, hc.setCell o.g 2 _ (fun _ => Or.inl rfl), fun k hk => ?_⟩
 rcases hk with e | e | e | e
 ·exact Or.inl (Or.inl e)
 ·exact Or.inl (Or.inr (Or.inl e))
 ·exact Or.inl (Or.inr (Or.inr (Or.inl e)))
 ·cases e
set_option maxHeartbeats 1600000 in
set_option maxRecDepth 100000 in
theorem flush_yes (o : Ow) (d : S.Dk) (w : World) (hd : DkIs w o d) (hg : d.goes = true) (hb : d.pend.length ≤ 1000000) :
  Calls Tryz.prog 111 #[o.ptr] w fun e w' => e = .returned (.int .i64 0) ∧ ∃ o', DkIs w' o' d.went.flush ∧ DkTo o w o' w' := by
 have HD := hide hd
 have T := hide (S.Dk.tried_yes hg)
 clear hd
 go_enter Tryz.func111, Tryz.ntmps111
 go_wp2_with fail
 refine (works_any o d w HD.out).mono ?_
 rintro e w1 ⟨rfl, o1, h1, h2, _⟩
 rw [T.out] at h1
 obtain ⟨DW, hDW⟩ : ∃ DW, DW = d.went := ⟨_, rfl⟩
 obtain ⟨N, hN⟩ : ∃ N, N = DW.pend.length := ⟨_, rfl⟩
 have hNb : N ≤ 1000000 := by rw [hN, hDW]; exact hb
 rw [← hDW] at h1
 have HDW := hide hDW
 have H1 := hide h1
 have H2 := hide h2
 obtain ⟨aop, cp, hpv⟩ := h1.pend.form
 rw [← hN] at hpv
 obtain ⟨c0, c1, c2, c3, c4⟩ := cells5 h1.row
 rw [hpv] at c2
 have HPV := hide hpv
 have HN := hide hN
 have HG := hide h2.g
 unfold Ow.ptr
 rw [← h2.g]
 clear h1 h2 hpv hDW hN hb
 go_wp2_with fail
 clear c0 c1 c2 c3 c4
 go_loopw [13] (fun i wr => ∃ k : Nat, k ≤ N ∧ i = .int .i64 (k : Int) ∧ Loose wr o1 DW (S.overTo DW.safe DW.pend k) DW.seen ∧ Chg o1.has w1 wr) (fun i _ => N - (intOf i).toNat)
 case atStart => exact ⟨0, Nat.zero_le _, rfl, H1.out.loose, Chg.refl _ _⟩
 case round =>
  obtain ⟨k, hk, rfl, hl, hc⟩ := hrel
  have HL := hide hl
  have HC := hide hc
  by_cases hlt : k < N
  ·have hlt' : k < DW.pend.length := by rw [← HN.out]; exact hlt
   obtain ⟨x, hx⟩ : ∃ x, x = S.Ws.nth DW.pend k := ⟨_, rfl⟩
   have hok := H1.out.ok.pend k hlt'
   rw [← hx] at hok
   obtain ⟨gp, rfl⟩ : ∃ gp, aop = some ⟨gp, 0, none⟩ := by
    rcases hl.pend.shape with ⟨_, e⟩ | ⟨g, c, e, _⟩
    ·rw [e] at hlt'; exact absurd hlt' (Nat.not_lt_zero _)
    ·rw [HPV.out] at e
     simp only [Value.slice.injEq] at e
     exact ⟨g, e.1⟩
   have hpr := hl.pend
   rw [HPV.out] at hpr
   have hld := load75 hpr (fun j hj => (H1.out.ok.pend j hj).2) k hlt'
   have hst := store75 x hok.2 wr (.int .i64 0 :: S.v8l (S.zeros 128)).toArray (by simp [S.v8l_length, S.zeros_length])
   have hal := alloc75
   obtain ⟨PCL, hPCL⟩ : ∃ PCL, PCL = S.pc x := ⟨_, rfl⟩
   obtain ⟨VL, hVL⟩ : ∃ VL, VL = S.v8l x.2 := ⟨_, rfl⟩
   obtain ⟨ZA, hZA⟩ : ∃ ZA, ZA = (Value.int .i64 0 :: S.v8l (S.zeros 128)).toArray := ⟨_, rfl⟩
   rw [← hx, ← hPCL] at hld
   rw [← hZA, ← hPCL] at hst
   simp only [← hZA] at hal
   have q1 : (0 : Int) ≤ (k : Int) := by omega
   have q2 : (k : Int) < (N : Int) := by omega
   have q3 : IntKind.i64.wrap ((k : Int) + 1) = (k : Int) + 1 := by rw [IntKind.wrap_i64]; omega
   have HX := hide hx
   have HPCL := hide hPCL
   have HVL := hide hVL
   have HOK := hide hok
   clear hl hc hpr hx hPCL hVL hZA hok hlt'
   go_wp2_with (refine wpList_load_known rfl 139 (.tmp 15) rfl (.agg PCL.toArray) hld ?_; refine wpList_alloc_known rfl 139 rfl (.pointer (some ⟨wr.heap.size, 0, none⟩)) (wr.alloc (.cells ZA 139)) (hal _) ?_; refine wpList_store_known rfl 139 (.tmp 4) (.tmp 16) rfl (wr.alloc (.cells PCL.toArray 139)) hst ?_)
   simp only [Act.put, uB, uC, uD]
   clear hld hst hal
   have hbw : Below wr.heap.size wr (wr.alloc (.cells PCL.toArray 139)) := (Below.refl _ _).alloc (Nat.le_refl _) _
   have HL2 := hide (HL.out.below hbw)
   have HC2 := hide (HC.out.trans (q := fun _ => False) (Chg.ofBelow' hbw) (fun _ _ e => e.elim))
   have HR2 : Hid ((wr.alloc (.cells PCL.toArray 139)).heap[wr.heap.size]? = some (.cells PCL.toArray 139 (0, 0))) := heap_alloc_new _ _
   have HLT := hide HL.out.lt
   have HSZ := hide HC.out.size
   clear hbw HL HC
   generalize wr.alloc (.cells PCL.toArray 139) = w2 at *
   generalize wr.heap.size = gw at *
   have q4 : (0 : Int) ≤ (x.1 : Int) := by omega
   have q5 : (x.1 : Int) < (DW.safe.length : Int) := by have := HOK.out.1; omega
   refine wp_region_noPanic ?_
   refine wp_region_held_drew (S := (fun W => W.heap[gw]? = some (.cells PCL.toArray 139 (0, 0)) ∧ W.cell? ⟨o1.g, 0, none⟩ = some (.slice (some ⟨o1.gs, 0, none⟩) DW.safe.length o1.cs))) follows ⟨HR2.out, (cells5 HL2.out.row).1⟩ (fun hHeld => ?_)
   have HLd := hide (HL2.out.below (W := w2.drew) ((Chg.refl (fun _ => False) w2).drew.below _ (Nat.le_refl _) (fun _ _ e => e)))
   have HCd := hide HC2.out.drew
   have HRd : Hid (w2.drew.heap[gw]? = some (.cells PCL.toArray 139 (0, 0))) := HR2.out
   clear HL2 HC2 HR2
   generalize w2.drew = Z1 at HLd HCd HRd hHeld ⊢
   refine tq 0 ?_
   simp only [Act.put, uB, uC, uD]
   refine tq 1 ?_
   simp only [Act.put, uB, uC, uD]
   refine tq 2 ?_
   simp only [Act.put, uB, uC, uD]
   refine tk 3 ?_ rfl (Or.inl ⟨by rfl, ?_⟩) ?_
   rotate_left
   ·intro w hSw
    have c0 := hSw.2
    clear hSw
    go_simp
    all_goals with_reducible rfl
   simp only [Act.put, uB, uC, uD]
   refine tq 4 ?_
   simp only [Act.put, uB, uC, uD]
   refine tk 5 ?_ rfl (Or.inl ⟨by rfl, ?_⟩) ?_
   rotate_left
   ·intro w hSw
    have cp0 : w.cell? ⟨gw, 0, none⟩ = some (.int .i64 (x.1 : Int)) := cell_place (p := x) (by rw [← HPCL.out]; exact hSw.1)
    clear hSw
    go_simp
    all_goals with_reducible rfl
   simp only [Act.put, uB, uC, uD]
   refine tq 6 ?_
   simp only [Act.put, uB, uC, uD]
   refine wpAnyH_take (i := 7) (oi := ⟨_, _, _, _, _, _⟩) (v := .agg VL.toArray) rfl (by kernel_rfl) (by kernel_rfl) (by kernel_rfl) (fun _ _ _ h => h) (yieldsIf_load_mid (by kernel_rfl) 137 (.tmp 23) rfl gw 1 rfl VL _ (fun W hW => by rw [HVL.out]; exact rangeAt_tail (p := x) (by rw [← HPCL.out]; exact hW.1)) Tryz.underlying137 rfl (by rw [size73, HVL.out, S.v8l_length, HOK.out.2])) (by assumption) ?_
   simp only [Act.put, uB, uC, uD]
   refine tq 8 ?_
   simp only [Act.put, uB, uC, uD]
   refine rdy [9] ?_
   have hth : Z1.there o1.gs (x.1 * 128) VL.toArray.size := by rw [List.size_toArray, HVL.out, S.v8l_length, HOK.out.2]; exact HLd.out.safe.there x.1 (by rw [HLd.out.sl]; exact HOK.out.1)
   have HC7 : Hid (Chg (fun k => k = o1.gs) Z1 (Z1.setCells o1.gs (x.1 * 128) VL)) := Chg.setCells (p := fun k => k = o1.gs) o1.gs (fun _ => rfl) _ _ (Chg.refl _ _)
   have HLN : Hid (Loose (Z1.setCells o1.gs (x.1 * 128) VL) o1 DW (S.overTo DW.safe DW.pend (k + 1)) DW.seen) := by rw [HVL.out, S.overTo, ← HX.out]; exact HLd.out.put H1.out x.1 HOK.out.1 x.2 HOK.out.2
   refine step_store (o := ⟨_, _, _, _, _, _⟩) rfl rfl 137 (.tmp 25) (.tmp 24) rfl (Z1.setCells o1.gs (x.1 * 128) VL) (run_storeAt_mid Z1 o1.gs (x.1 * 128) 137 VL.toArray hth (by rw [size73, List.size_toArray, HVL.out, S.v8l_length, HOK.out.2]) (by rw [HVL.out]; exact v8l_one' _)) AllReadyH.nil ⟨⟨HC7.out.row HRd.out (fun e => by have := HLT.out o1.gs (Or.inr (Or.inl rfl)); omega), (cells5 HLN.out.row).1⟩, fun hHeld => ?_⟩
   refine wpAnyH_done (by kernel_rfl) ?_ _
   refine NoPanic.normal ?_
   simp only [Act.put]
   clear hHeld hth HRd HLd
   have HCN : Hid (Chg o1.has w1 (Z1.setCells o1.gs (x.1 * 128) VL)) := HCd.out.trans HC7.out (fun j _ e => Or.inr (Or.inl e))
   clear HCd HC7
   generalize Z1.setCells o1.gs (x.1 * 128) VL = Z2 at *
   go_wp2_with fail
   go_roundw
   case rel => exact ⟨k + 1, by omega, by go_num, HLN.out, HCN.out⟩
   case measure => simp [intOf]; omega
  ·obtain rfl : k = N := by omega
   have q2 : ¬ ((k : Int) < (k : Int)) := by omega
   have hrow := hl.row
   rw [HPV.out] at hrow
   have f2 := frozen_of_row _ _ 2 _ _ hrow
   obtain ⟨c0, c1, c2, c3, c4⟩ := cells5 hrow
   have FIN : Hid (DkIs (wr.setCell ⟨o1.g, 2, none⟩ (.slice none 0 0)) { o1 with pv := .slice none 0 0 } DW.flush ∧ DkTo o1 w1 { o1 with pv := .slice none 0 0 } (wr.setCell ⟨o1.g, 2, none⟩ (.slice none 0 0))) := by
    rw [HN.out] at hl
    exact flush_fin H1.out hl hc
   clear hl hc hrow
   go_wp2_with fail
   go_ret
   rw [← HDW.out]
   exact ⟨rfl, _, FIN.out.1, H2.out.trans FIN.out.2⟩
end Go.Proofs.YteealihknndclaaGreatDoor
namespace Go.Proofs.YteealihknndclaaGreatDoor
open Go.RowKit
namespace S
end S
end Go.Proofs.YteealihknndclaaGreatDoor
namespace Go.Proofs.YteealihknndclaaGreatDoor
open Go.RowKit
theorem Chg.setRow {p : Nat → Prop} {w : World} (g : Nat) (cs : Array Value) (hp : p g) : Chg p w (w.setRow g cs) :=
 ⟨rfl, rfl, rfl, by simp [World.setRow], fun k _ hn => setRow_other w g k cs (fun e => hn (by rw [e]; exact hp))⟩
end Go.Proofs.YteealihknndclaaGreatDoor
