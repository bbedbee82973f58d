/- Runs of single operations on sectors and writes: built, laid, loaded, stored. -/
/- Write: the write is pending, behind those that are, or it is refused, or the disk is stopped. -/
import Derived.Test.YteealihknndclabGreatDoorGg
import Derived.Great.BuildSlice
import Derived.Deep.WholeRow
import Derived.Test.YteealihknndclabGreatDoorGd
import Derived.Test.YteealihknndclabGreatDoorGe
namespace Go.Proofs.YteealihknndclabGreatDoor
open Go.RowKit
theorem zu (off : Nat) (v cs : Array Value) (k : Nat) : (v.zipIdx.foldl (fun cs (x : Value × Nat) => cs.setIfInBounds (off + x.2) x.1) cs)[k]? = if off <= k /\ k < off + v.size /\ k < cs.size then v[k - off]? else cs[k]? := by
 obtain ⟨_, h⟩ := Great.foldl_set off v.toList 0 cs
 have e : v.zipIdx.foldl (fun cs (x : Value × Nat) => cs.setIfInBounds (off + x.2) x.1) cs = (v.toList.zipIdx 0).foldl (fun cs (x : Value × Nat) => cs.setIfInBounds (off + x.2) x.1) cs := by
  rw [<- Array.foldl_toList, Array.toList_zipIdx]
 rw [e, h k]
 simp
set_option maxRecDepth 100000 in
theorem built75 (n : Nat) (t : List UInt8) (ht : t.length = 128) : Tryz.prog.built 229 [(0, .int .i64 (n : Int)), (1, .agg (S.v8l t).toArray)] = some (S.pc (n, t)).toArray := by
 have h : ∀ parts, Tryz.prog.built 229 parts = Instr.fill ((#[(0, 1), (1, 128)] : Array (Nat × Nat))[·]?) (.int .i64 0 :: S.v8l (S.zeros 128)).toArray parts := fun parts => by
  obtain ⟨i, hi, hz, _, _⟩ := bZ wu vk
  unfold Program.built
  rw [hi, Tryz.underlying229]
  simp only [hz]
  rfl
 rw [h]
 have hl : (S.v8l t).length = 128 := by rw [S.ae, ht]
 have hz : (.int .i64 0 :: S.v8l (S.zeros 128)).toArray.size = 129 := by simp [S.ae, S.zeros_length]
 unfold Instr.fill
 simp only [show (#[(0, 1), (1, 128)] : Array (Nat × Nat))[0]? = some (0, 1) from rfl]
 rw [if_neg (by simp [Value.cells])]
 unfold Instr.fill
 simp only [show (#[(0, 1), (1, 128)] : Array (Nat × Nat))[1]? = some (1, 128) from rfl]
 rw [if_neg (by simp [Value.cells, hl, S.ae, S.zeros_length])]
 unfold Instr.fill
 congr 1
 apply Array.ext_getElem?
 intro k
 have c0 : (Value.int .i64 (n : Int)).cells = #[.int .i64 (n : Int)] := rfl
 have c1 : (Value.agg (S.v8l t).toArray).cells = (S.v8l t).toArray := rfl
 rw [c0, c1]
 have l1 := zu 1 (S.v8l t).toArray ((#[Value.int .i64 (n : Int)].zipIdx.foldl (fun cs (x : Value × Nat) => cs.setIfInBounds (0 + x.2) x.1) (.int .i64 0 :: S.v8l (S.zeros 128)).toArray)) k
 have l0 := zu 0 #[Value.int .i64 (n : Int)] (.int .i64 0 :: S.v8l (S.zeros 128)).toArray k
 refine l1.trans ?_
 have hs : (#[Value.int .i64 (n : Int)].zipIdx.foldl (fun cs (x : Value × Nat) => cs.setIfInBounds (0 + x.2) x.1) (.int .i64 0 :: S.v8l (S.zeros 128)).toArray).size = 129 := by
  rw [<- hz]; simp
 rw [hs, l0, hz]
 simp only [S.pc, List.size_toArray, hl, List.getElem?_toArray]
 cases k with
 | zero => rw [if_neg (by omega), if_pos ⟨lr _, by simp, by omega⟩]; rfl
 | succ k =>
  rw [List.getElem?_cons_succ]
  by_cases hk : k < 128
  ·rw [if_pos ⟨by omega, by omega, by omega⟩]; rfl
  ·rw [if_neg (by omega), if_neg (by simp), List.getElem?_cons_succ, List.getElem?_eq_none (by rw [S.ae, S.zeros_length]; omega), List.getElem?_eq_none (by omega)]
theorem build75 (n : Nat) (t : List UInt8) (ht : t.length = 128) (w : World) : (Instr.build 229 #[(0, .int .i64 (n : Int)), (1, .agg (S.v8l t).toArray)]).run Tryz.prog w = .ok (.agg (S.pc (n, t)).toArray) w :=
 run_build w 229 _ _ (built75 n t ht)
theorem wG (p : Nat × List UInt8) (hp : p.2.length = 128) (w : World) : (Instr.buildSlice 71 1 #[(0, .agg (S.pc p).toArray)]).run Tryz.prog w = .ok (.slice (some ⟨w.heap.size, 0, none⟩) 1 1) (w.alloc (.cells (S.pc p).toArray 229)) := by
 obtain ⟨i, hi, hz, hs, _⟩ := bZ wu vk
 refine run_buildSlice w 71 229 1 _ _ i _ Tryz.underlying71 hi hz (by rw [hs]; omega) (by rw [hs]; omega) ?_
 have h := Great.fill_whole (s := 129) (by omega) [.agg (S.pc p).toArray] ((Array.range (1 * i.size)).map ((Value.agg (.int .i64 0 :: S.v8l (S.zeros 128)).toArray).cells[· % (Value.agg (.int .i64 0 :: S.v8l (S.zeros 128)).toArray).cells.size]!)) (fun v hv => by
  simp only [List.mem_singleton] at hv
  subst hv
  show (S.pc p).toArray.size = 129
  rw [List.size_toArray, S.jc p hp]) (by simp [hs])
 rw [hs] at h ⊢
 refine h.trans ?_
 simp [Value.cells]
theorem AP (w : World) : (Instr.alloc 229 true (.tuple #[])).run Tryz.prog w = .ok (.pointer (some ⟨w.heap.size, 0, none⟩)) (w.alloc (.cells (.int .i64 0 :: S.v8l (S.zeros 128)).toArray 229)) := by
 obtain ⟨i, hi, hz, _, _⟩ := bZ wu vk
 simp [Instr.alloc, zeroValue, typeInfo, hi, hz, newVar, newRow, Value.cells]
theorem one75 (p : Nat × List UInt8) : (S.pc p).toArray.all (·.oneCell') = true := all_oneCell_toArray (S.vN p)
theorem Ae (p : Nat × List UInt8) (hp : p.2.length = 128) (w : World) (c : Array Value) (hc : c.size = 129) : (Instr.storeAt 229 (.pointer (some ⟨w.heap.size, 0, none⟩)) (.agg (S.pc p).toArray)).run Tryz.prog (w.alloc (.cells c 229)) = .ok () (w.alloc (.cells (S.pc p).toArray 229)) := by
 have h := run_storeVar_row (P := Tryz.prog) (w.alloc (.cells c 229)) w.heap.size 229 229 c (S.pc p).toArray (heap_alloc_new _ _) (by rw [yO, List.size_toArray, S.jc p hp]) (by rw [hc, List.size_toArray, S.jc p hp]) (one75 p)
 rw [World.setRow_alloc_new] at h
 simp only [Instr.storeAt, Instr.sureAddr, Sem.run_bind, Sem.run_pure, Result.andThen_ok, h]
theorem je {w : World} {ops : Array Oper} {rest : List Oper} {o : Oper} {a : Act} {Q : Exit -> Act -> World -> Prop} (hgd : o.guard = none) (t : TypeId) (parts : List (Nat × Operand)) (ho : o.op = .build t parts.toArray) (v : Value)
  (hr : (Instr.build t (parts.map fun p => (p.1, a.eval p.2)).toArray).run Tryz.prog w = .ok v w) (h : wpList Tryz.prog ops Q rest (a.put o.dst v) w) : wpList Tryz.prog ops Q (o :: rest) a w :=
 wpList_plain hgd fun _ hK => by
  unfold Oper.wp execOp
  simp only [ho, Sem.run_bind, List.map_toArray, hr, Result.andThen_ok]
  exact hK _ _ h
theorem ah {w : World} {ops : Array Oper} {rest : List Oper} {o : Oper} {a : Act} {Q : Exit -> Act -> World -> Prop} (hgd : o.guard = none) (t : TypeId) (ho : o.op = .alloc t) (v : Value) (w' : World)
  (hr : (Instr.alloc t true (.tuple #[])).run Tryz.prog w = .ok v w') (h : wpList Tryz.prog ops Q rest (a.put o.dst v) w') : wpList Tryz.prog ops Q (o :: rest) a w :=
 wpList_plain hgd fun _ hK => by
  unfold Oper.wp execOp
  simp only [ho, Sem.run_bind, hr, Result.andThen_ok]
  exact hK _ _ h
theorem fO {w : World} {ops : Array Oper} {rest : List Oper} {o : Oper} {a : Act} {Q : Exit -> Act -> World -> Prop} (hgd : o.guard = none) (t : TypeId) (x y : Operand) (ho : o.op = .store t x y) (w' : World)
  (hr : (Instr.storeAt t (a.eval x) (a.eval y)).run Tryz.prog w = .ok () w') (h : wpList Tryz.prog ops Q rest (a.put o.dst undef) w') : wpList Tryz.prog ops Q (o :: rest) a w :=
 wpList_plain hgd fun _ hK => by
  unfold Oper.wp execOp
  simp only [ho, Sem.run_bind, hr, Result.andThen_ok, Sem.run_pure]
  exact hK _ _ h
theorem gH {w : World} {ops : Array Oper} {rest : List Oper} {o : Oper} {a : Act} {Q : Exit -> Act -> World -> Prop} (hgd : o.guard = none) (t : TypeId) (x : Operand) (ho : o.op = .load t x) (v : Value)
  (hr : (Instr.loadAt t (a.eval x)).run Tryz.prog w = .ok v w) (h : wpList Tryz.prog ops Q rest (a.put o.dst v) w) : wpList Tryz.prog ops Q (o :: rest) a w :=
 wpList_plain hgd fun _ hK => by
  unfold Oper.wp execOp
  simp only [ho, Sem.run_bind, hr, Result.andThen_ok]
  exact hK _ _ h
theorem aJ {md : Region.Mode} {ops : Array Oper} {Q : Exit -> Act -> World -> Prop} {S : World -> Prop} {fuel : Nat} {listed : Array Bool} {a : Act} {w : World} {i : Nat} {o : Oper} {rs : List Nat} (ho : ops[i]? = some o) (hgd : o.guard = none) (t : TypeId) (n : Nat) (parts : List (Nat × Operand))
  (hop : o.op = .buildSlice t n parts.toArray) (v' : Value) (w' : World) (hr : (Instr.buildSlice t n (parts.map fun p => (p.1, a.eval p.2)).toArray).run Tryz.prog w = .ok v' w') (hrest : AllReadyH Tryz.prog md ops Q S fuel listed a w rs)
  (h : S w' /\ (S w' -> wpAnyH Tryz.prog md ops Q S fuel (listed.setIfInBounds i true) (a.put o.dst v') w')) : AllReadyH Tryz.prog md ops Q S fuel listed a w (i :: rs) := by
 refine AllReadyH.cons ho (fun K hK => ?_) hrest
 rw [if_pos (by simp [Region.wanted, hgd])]
 unfold Oper.wp execOp
 simp only [hop, Sem.run_bind, List.map_toArray, hr, Result.andThen_ok]
 exact hK.out _ _ h.1 h.2
theorem dH {md : Region.Mode} {ops : Array Oper} {Q : Exit -> Act -> World -> Prop} {S : World -> Prop} {fuel : Nat} {listed : Array Bool} {a : Act} {w : World} {i : Nat} {o : Oper} {rs : List Nat} (ho : ops[i]? = some o) (hgd : o.guard = none) (t : TypeId) (x y : Operand)
  (hop : o.op = .store t x y) (w' : World) (hr : (Instr.storeAt t (a.eval x) (a.eval y)).run Tryz.prog w = .ok () w') (hrest : AllReadyH Tryz.prog md ops Q S fuel listed a w rs)
  (h : S w' /\ (S w' -> wpAnyH Tryz.prog md ops Q S fuel (listed.setIfInBounds i true) (a.put o.dst undef) w')) : AllReadyH Tryz.prog md ops Q S fuel listed a w (i :: rs) := by
 refine AllReadyH.cons ho (fun K hK => ?_) hrest
 rw [if_pos (by simp [Region.wanted, hgd])]
 unfold Oper.wp execOp
 simp only [hop, Sem.run_bind, hr, Result.andThen_ok, Sem.run_pure]
 exact hK.out _ _ h.1 h.2
theorem aB {md : Region.Mode} {ops : Array Oper} {Q : Exit -> Act -> World -> Prop} {S : World -> Prop} {fuel : Nat} {listed : Array Bool} {a : Act} {w : World} {i : Nat} {o : Oper} {rs : List Nat} (ho : ops[i]? = some o) (hgd : o.guard = none) (t : TypeId) (x : Operand)
  (hop : o.op = .load t x) (v' : Value) (hr : (Instr.loadAt t (a.eval x)).run Tryz.prog w = .ok v' w) (hrest : AllReadyH Tryz.prog md ops Q S fuel listed a w rs)
  (h : S w /\ (S w -> wpAnyH Tryz.prog md ops Q S fuel (listed.setIfInBounds i true) (a.put o.dst v') w)) : AllReadyH Tryz.prog md ops Q S fuel listed a w (i :: rs) := by
 refine AllReadyH.cons ho (fun K hK => ?_) hrest
 rw [if_pos (by simp [Region.wanted, hgd])]
 unfold Oper.wp execOp
 simp only [hop, Sem.run_bind, hr, Result.andThen_ok]
 exact hK.out _ _ h.1 h.2
theorem aH {w : World} {g : Nat} {cs : List Value} {t : TypeId} (h : w.heap[g]? = some (.cells cs.toArray t (0, 0))) : w.rangeAt g 0 cs := fun j v hv => by
 rw [Nat.zero_add, cell_of_row w g j _ t (0, 0) h]; simpa using hv
theorem nP {w : World} {g : Nat} {p : Nat × List UInt8} {t : TypeId} (h : w.heap[g]? = some (.cells (S.pc p).toArray t (0, 0))) : w.rangeAt g 1 (S.v8l p.2) := fun j v hv => by
 rw [cell_of_row w g _ _ t (0, 0) h, Nat.add_comm]
 simpa [S.pc] using hv
end Go.Proofs.YteealihknndclabGreatDoor
namespace Go.Proofs.YteealihknndclabGreatDoor
open Go.RowKit
theorem yC (o : Ow) (d : S.Dk) (n : Nat) (ao : Option Addr) (cap : Nat) (w : World) (hd : aZ w o d) (hn : n < d.safe.length) (hg : d.goes = false) :
  Calls Tryz.prog 111 #[o.ptr, .int .i64 (n : Int), .slice ao 128 cap] w fun e w' => e = .returned (.int .i64 13) /\ ∃ o', aZ w' o' d /\ dK o w o' w' := by
 have HD := hide hd
 have E := S.Dk.inside_yes hn
 have T := hide (S.Dk.tried_no hg)
 clear hd hn
 go_enter Tryz.func111, Tryz.ntmps111
 go_wp2_with fail
 refine (wy o d n w HD.out).mono ?_
 rintro e w1 ⟨rfl, rfl⟩
 go_wp2_with fail
 refine (lU o d w HD.out).mono ?_
 rintro e w1 ⟨rfl, o1, h1, h2, _⟩
 rw [T.out] at h1
 have H1 := hide h1
 have H2 := hide h2
 clear h1 h2
 go_wp2
 go_ret
 exact ⟨rfl, o1, H1.out, H2.out⟩
theorem array73 (a : Option Addr) (cap : Nat) (w : World) : (Instr.arrayAt 227 (.slice a 128 cap)).run Tryz.prog w = .ok (.pointer a) w := by
 simp [Instr.arrayAt, run_underlying Tryz.underlying227]
theorem oZ (w : World) (v : Value) (p : S.Ws) (x : Nat × List UInt8) (g : Nat) (ty : TypeId) (hv : jb w v p) (hx : x.2.length = 128) (hg : w.heap[g]? = some (.cells (S.pc x).toArray 229 (0, 0))) (hb : p.length <= 1000000) :
  ∃ v' w', (Builtin.append_ #[71, 71] ty #[v, .slice (some ⟨g, 0, none⟩) 1 1]).run Tryz.prog w = .ok v' w' /\ (jb w' v' (p ++ [x]) /\ w.grownBy w' v.ownBlock /\ ∀ k, v'.ownBlock = some k -> v.ownBlock = some k \/ w.heap.size <= k) := by
 obtain ⟨i, hi, hz0, hz1, hz2⟩ := bZ wu vk
 have hl := S.jc x hx
 have hzc : (Value.agg (.int .i64 0 :: S.v8l (S.zeros 128)).toArray).cells.size = 129 := by simp [Value.cells, S.ae, S.zeros_length]
 have hc : ∀ j u, (S.pc x)[j]? = some u -> w.cell? ((⟨g, 0, none⟩ : Addr).add j) = some u := fun j u hu => by
  rw [Addr.add_lit, Nat.zero_add, cell_of_row w g j _ 229 (0, 0) hg]
  simpa using hu
 obtain ⟨v', w', hr, ho, hgr, _⟩ := run_append_own (P := Tryz.prog) w 0 71 ty 229 i _ 129 136 Tryz.underlying71 hi hz0 hz1 hz2 hzc (by omega) v p.length (S.pcs p) hv ⟨g, 0, none⟩ 1 1 (S.pc x) (by omega) hc (S.vN x) (by simp only [maxLen]; omega) (by omega) (Nat.zero_le _)
 refine ⟨v', w', hr, ?_, hgr, fun k hk => ?_⟩
 ·unfold jb
  rw [S.pcs_app, List.length_append, List.length_singleton]
  simpa [S.pcs] using ho
 rcases hv.2 with ⟨rfl, h3⟩ | ⟨g', cap, cur, rfl, _, h4, h5, _, h6, h7⟩
 ·obtain ⟨v2, w2, hr2, ho2, _, _⟩ := run_append_own (P := Tryz.prog) w w.heap.size 71 ty 229 i _ 129 136 Tryz.underlying71 hi hz0 hz1 hz2 hzc (by omega) (.slice none 0 0) 0 [] (World.ownsRow_nil w w.heap.size 229 129) ⟨g, 0, none⟩ 1 1 (S.pc x) (by omega) hc (S.vN x) (by simp only [maxLen]; omega) (by omega) (lr _)
  rw [hr] at hr2
  simp only [Result.ok.injEq] at hr2
  obtain ⟨rfl, rfl⟩ := hr2
  exact Or.inr (ho2.lt k hk).1
 ·by_cases hroom : p.length + 1 <= cap
  ·have hr2 := run_append_room (P := Tryz.prog) w 71 ty 229 i Tryz.underlying71 hi g' p.length cap cur h4 ⟨g, 0, none⟩ 1 1 (S.pc x) (by rw [hz1]; omega) hc (S.vN x) hroom (by rw [hz1]; omega)
   rw [hr] at hr2
   simp only [Result.ok.injEq] at hr2
   rw [hr2.1] at hk
   exact Or.inl hk
  ·have holds := World.ownsRow.cells hv (g := g') rfl
   have hr2 := run_append_grow (P := Tryz.prog) w 71 ty 229 i _ Tryz.underlying71 hi hz0 ⟨g', 0, none⟩ p.length cap (S.pcs p) (by rw [hv.1, hz1]) holds ⟨g, 0, none⟩ 1 1 (S.pc x) (by rw [hz1]; omega) hc (by omega) (by omega) (growslice_fits (by omega) (by rw [hz2]; omega))
   rw [hr] at hr2
   simp only [Result.ok.injEq] at hr2
   rw [hr2.1] at hk
   simp only [Value.ownBlock, Option.some.injEq] at hk
   exact Or.inr (by omega)
structure Mid (Z : World) (o : Ow) (v2 : Value) (d : S.Dk) (n : Nat) (t : List UInt8) : Prop where
 row : Z.heap[o.g]? = some (.cells #[.slice (some ⟨o.gs, 0, none⟩) d.safe.length o.cs, .slice (some ⟨o.ge, 0, none⟩) d.safe.length o.ce, v2, .bool d.left.isSome, .int .i64 o.lf] 73 (0, 0))
 safe : eH Z o.gs d.safe
 seen : eH Z o.ge d.seen
 pend : jb Z v2 (d.pend ++ [(n, t)])
 psep : ∀ k, v2.ownBlock = some k -> k ≠ o.g /\ k ≠ o.gs /\ k ≠ o.ge
theorem Mid.of {X Y : World} {o : Ow} {d : S.Dk} {n : Nat} {t : List UInt8} {v2 : Value} (h : aZ X o d) (hu : jb Y v2 (d.pend ++ [(n, t)])) (hg : X.grownBy Y o.pv.ownBlock) (ho : ∀ k, v2.ownBlock = some k -> o.pv.ownBlock = some k \/ X.heap.size <= k) :
  Mid (Y.setCell ⟨o.g, 2, none⟩ v2) o v2 d n t /\ Chg o.has X (Y.setCell ⟨o.g, 2, none⟩ v2) := by
 have hlt := h.lt
 have hrow : Y.heap[o.g]? = _ := (hg.block o.g (hlt _ (Or.inl rfl)) (fun e => (h.psep _ e.symm).1 rfl)).trans h.row
 have hc : Chg o.has X Y := (Chg.refl _ _).grown hg (fun k _ e => Or.inr (Or.inr (Or.inr e)))
 have hps : ∀ k, v2.ownBlock = some k -> k ≠ o.g /\ k ≠ o.gs /\ k ≠ o.ge := fun k hk => by
  rcases ho k hk with e | e
  ·exact h.psep k e
  ·have h1 := hlt _ (Or.inl rfl)
   have h2 := hlt _ (Or.inr (Or.inl rfl))
   have h3 := hlt _ (Or.inr (Or.inr (Or.inl rfl)))
   omega
 have hs : eH Y o.gs d.safe := h.safe.kept (hg.block _ (hlt _ (Or.inr (Or.inl rfl))) (fun e => (h.psep _ e.symm).2.1 rfl))
 have he : eH Y o.ge d.seen := h.seen.kept (hg.block _ (hlt _ (Or.inr (Or.inr (Or.inl rfl)))) (fun e => (h.psep _ e.symm).2.2 rfl))
 have hco : Chg (fun k => k = o.g) Y (Y.setCell ⟨o.g, 2, none⟩ v2) := (Chg.refl (fun k => k = o.g) Y).setCell o.g 2 _ (fun _ => rfl)
 refine ⟨⟨?_, hs.chg hco (fun e => h.sep.1 e.symm), he.chg hco (fun e => h.sep.2.1 e.symm), hu.chg hco (fun k hk => (hps k hk).1), hps⟩, hc.setCell o.g 2 _ (fun _ => Or.inl rfl)⟩
 exact heap_setCell_same _ _ 2 _ _ v2 hrow
theorem Mid.drew {Z : World} {o : Ow} {d : S.Dk} {n : Nat} {t : List UInt8} {v2 : Value} (m : Mid Z o v2 d n t) : Mid Z.drew o v2 d n t := ⟨m.row, m.safe.kept rfl, m.seen.kept rfl, m.pend.kept (fun _ _ => rfl), m.psep⟩
theorem Mid.fin {Z : World} {o : Ow} {d : S.Dk} {n : Nat} {t : List UInt8} {v2 : Value} (m : Mid Z o v2 d n t) {w0 : World} (h : aZ w0 o d) (hn : n < d.safe.length) (ht : t.length = 128) :
  aZ (Z.setCells o.ge (n * 128) (S.v8l t)) { o with pv := v2 } (d.write n t) := by
 have hc : Chg (fun k => k = o.ge) Z (Z.setCells o.ge (n * 128) (S.v8l t)) := Chg.setCells (p := fun k => k = o.ge) o.ge (fun _ => rfl) _ _ (Chg.refl _ _)
 have e : (d.write n t).seen = d.seen.set n t := S.lX _ _ _ _
 refine ⟨hc.row m.row h.sep.2.1, m.safe.chg hc h.sep.2.2, ?_, m.pend.chg hc (fun k hk => (m.psep k hk).2.2), h.ok.write n t hn ht, h.left, h.sep, m.psep, h.caps⟩
 rw [e]
 exact m.seen.store n (by rw [S.Dk.seen_length]; exact hn) t ht
set_option maxHeartbeats 1600000 in
set_option maxRecDepth 100000 in
theorem Bb (o : Ow) (d : S.Dk) (n : Nat) (v : Value) (t : List UInt8) (w : World) (hd : aZ w o d) (hn : n < d.safe.length) (hg : d.goes = true) (ht : t.length = 128) (hb : d.pend.length <= 1000000) (hv : ∀ W, Chg (fun k => k = o.g) w W -> SliceAt W v t) :
  Calls Tryz.prog 111 #[o.ptr, .int .i64 (n : Int), v] w fun e w' => e = .returned (.int .i64 0) /\ ∃ o', aZ w' o' (d.went.write n t) /\ dK o w o' w' := by
 obtain ⟨ao, len, cap, rfl, hlen, -⟩ := (hv w (Chg.refl _ _)).form
 rw [ht] at hlen
 subst hlen
 have HD := hide hd
 have E := S.Dk.inside_yes hn
 have T := hide (S.Dk.tried_yes hg)
 have HV := hide hv
 have HN := hide hn
 have HT := hide ht
 have HB := hide hb
 clear hd hn hv ht hb
 go_enter Tryz.func111, Tryz.ntmps111
 go_wp2_with fail
 refine (wy o d n w HD.out).mono ?_
 rintro e w1 ⟨rfl, rfl⟩
 go_wp2_with fail
 refine (lU o d w HD.out).mono ?_
 rintro e w1 ⟨rfl, o1, h1, h2, h3⟩
 rw [T.out] at h1
 obtain ⟨b, off, hao, hbl, -, hcell⟩ := (HV.out w1 h3).src (by rw [HT.out]; omega)
 subst hao
 have hld := run_loadAt_mid (P := Tryz.prog) w1 b off 227 (S.v8l t) _ (fun j x hx => by obtain ⟨rfl, hj⟩ := S.oK _ j x hx; exact hcell j hj) Tryz.underlying227 rfl (by rw [rE, S.ae, HT.out])
 have hbd := build75 n t HT.out
 have hal := AP
 have har : ∀ W : World, (Instr.arrayAt 227 (.slice (some ⟨b, off, none⟩) 128 cap)).run Tryz.prog W = .ok (.pointer (some ⟨b, off, none⟩)) W := fun W => array73 _ _ W
 have hst := Ae (n, t) HT.out w1 (.int .i64 0 :: S.v8l (S.zeros 128)).toArray (by simp [S.ae, S.zeros_length])
 have H1 := hide h1
 have H2 := hide h2
 have HBL := hide hbl
 obtain ⟨PCL, sH⟩ : ∃ PCL, PCL = S.pc (n, t) := ⟨_, rfl⟩
 obtain ⟨VL, hVL⟩ : ∃ VL, VL = S.v8l t := ⟨_, rfl⟩
 obtain ⟨ZA, hZA⟩ : ∃ ZA, ZA = (Value.int .i64 0 :: S.v8l (S.zeros 128)).toArray := ⟨_, rfl⟩
 rw [<- sH, <- hVL] at hbd
 rw [<- hVL] at hld
 rw [<- hZA, <- sH] at hst
 simp only [<- hZA] at hal
 have hbs := wG (n, t) HT.out
 simp only [<- sH] at hbs
 have Du := hide sH
 have HVL := hide hVL
 have hpl : PCL.length = 129 := by rw [sH]; exact S.jc _ HT.out
 have HPL := hide hpl
 clear h1 h2 h3 hcell hbl sH hVL hZA hpl
 go_wp2_with (refine gH rfl 227 (.tmp 22) rfl _ hld ?_; refine je rfl 229 [(0, Operand.tmp 20), (1, Operand.tmp 23)] rfl (.agg PCL.toArray) (hbd w1) ?_; refine ah rfl 229 rfl (.pointer (some ⟨w1.heap.size, 0, none⟩)) (w1.alloc (.cells ZA 229)) (hal _) ?_; refine fO rfl 229 (.tmp 7) (.tmp 24) rfl (w1.alloc (.cells PCL.toArray 229)) hst ?_)
 clear hld hbd hal hst har HV HBL
 simp only [Act.put, List.setIfInBounds_toArray, List.set_cons_zero, List.set_cons_succ, Ow.ptr]
 rw [<- H2.out.g]
 have HD2 : Hid (aZ (w1.alloc (.cells PCL.toArray 229)) o1 d.went) := H1.out.below (ba ..)
 have HC2 : Hid (Chg o.has w (w1.alloc (.cells PCL.toArray 229))) := H2.out.chg.alloc _
 have HR2 : Hid ((w1.alloc (.cells PCL.toArray 229)).heap[w1.heap.size]? = some (.cells PCL.toArray 229 (0, 0))) := heap_alloc_new _ _
 have HO1 : Hid (∀ k, o1.has k -> k < w1.heap.size) := H1.out.lt
 have HOW : Hid (∀ k, o1.has k -> o.has k \/ w.heap.size <= k) := H2.out.own
 have HG := hide H2.out.g
 have HS1 := hide H2.out.chg.size
 generalize w1.alloc (.cells PCL.toArray 229) = w2 at *
 generalize w1.heap.size = gw at *
 clear H1 H2
 obtain ⟨aop, cp, hpv⟩ := HD2.out.pend.form
 have HPV := hide hpv
 clear hpv
 refine wp_region_noPanic ?_
 refine wp_region_held_drew (S := (fun W => W.heap[gw]? = some (.cells PCL.toArray 229 (0, 0)))) follows HR2.out (fun hHeld => ?_)
 refine tq 0 ?_
 simp only [uA]
 refine tq 1 ?_
 simp only [uA]
 refine tq 2 ?_
 simp only [uA]
 refine tq 3 ?_
 simp only [uA]
 refine wpAnyH_take (i := 5) (oi := ⟨_, _, _, _, _, _⟩) (v := .agg PCL.toArray) rfl (by kernel_rfl) (by kernel_rfl) (by kernel_rfl) (fun _ _ _ h => h) (yieldsIf_load_mid (by kernel_rfl) 229 (.tmp 7) rfl gw 0 rfl PCL _ (fun W hW => aH hW) Tryz.underlying229 rfl (by rw [yO, HPL.out])) (by assumption) ?_
 simp only [uA]
 refine rdy [4, 6] ?_
 refine AllReadyH.cons (o := ⟨_, _, _, _, _, _⟩) rfl (fun K hK => ?_) ?_
 focus
  have c2 := (cells5 HD2.out.row).2.2.1
  rw [HPV.out] at c2
  go_simp
  refine hK.out _ _ (by assumption) (fun hHeld => ?_)
  clear hK K c2
  try simp only [uA]
  refine rdy [6] ?_
  refine aJ (o := ⟨_, _, _, _, _, _⟩) rfl rfl 71 1 [(0, Operand.tmp 30)] rfl _ _ (hbs _) AllReadyH.nil ⟨(heap_alloc_old _ _ (aa HR2.out)).trans HR2.out, fun hHeld => ?_⟩
  try simp only [uA]
  generalize hX : w2.drew.alloc (.cells PCL.toArray 229) = X
  have bX : Below w2.heap.size w2 X := by rw [<- hX]; exact (((Chg.refl (fun _ => False) w2).drew).alloc (.cells PCL.toArray 229)).below _ (lr _) (fun _ _ e => e)
  have DX : Hid (aZ X o1 d.went) := HD2.out.below bX
  have GX : Hid (X.heap[gw]? = some (.cells PCL.toArray 229 (0, 0))) := (bX.block gw (aa HR2.out)).trans HR2.out
  have NX : Hid (X.heap[w2.heap.size]? = some (.cells (S.pc (n, t)).toArray 229 (0, 0))) := by rw [<- hX, <- Du.out]; exact heap_alloc_new _ _
  have CX : Hid (Chg o.has w X) := HC2.out.trans (q := fun _ => False) (Chg.ofBelow' bX) (fun _ _ e => e.elim)
 rotate_left
 focus
  refine aJ (o := ⟨_, _, _, _, _, _⟩) rfl rfl 71 1 [(0, Operand.tmp 30)] rfl _ _ (hbs _) AllReadyH.nil ⟨(heap_alloc_old _ _ (aa HR2.out)).trans HR2.out, fun hHeld => ?_⟩
  simp only [uA]
  refine r1 4 fun K hK => ?_
  have c2 := (cells5 ((heap_alloc_old _ (.cells PCL.toArray 229) (aa HD2.out.row)).trans HD2.out.row)).2.2.1
  rw [HPV.out] at c2
  go_simp
  refine hK.out _ _ (by assumption) (fun hHeld => ?_)
  clear hK K c2
  try simp only [uA]
  try simp only [uA]
  generalize hX : (w2.alloc (.cells PCL.toArray 229)).drew = X
  have bX : Below w2.heap.size w2 X := by rw [<- hX]; exact ((Chg.refl (fun _ => False) w2).alloc (.cells PCL.toArray 229)).drew.below _ (lr _) (fun _ _ e => e)
  have DX : Hid (aZ X o1 d.went) := HD2.out.below bX
  have GX : Hid (X.heap[gw]? = some (.cells PCL.toArray 229 (0, 0))) := (bX.block gw (aa HR2.out)).trans HR2.out
  have NX : Hid (X.heap[w2.heap.size]? = some (.cells (S.pc (n, t)).toArray 229 (0, 0))) := by rw [<- hX, <- Du.out]; exact heap_alloc_new _ _
  have CX : Hid (Chg o.has w X) := HC2.out.trans (q := fun _ => False) (Chg.ofBelow' bX) (fun _ _ e => e.elim)
 all_goals
  clear bX hX hHeld
  refine rdy [7] ?_
  have PX := DX.out.pend
  rw [HPV.out] at PX
  refine bK (o := ⟨_, _, _, _, _, _⟩) rfl rfl _ _ 71 71 rfl _ _ rfl rfl (oZ X _ d.went.pend (n, t) w2.heap.size 71 PX HT.out NX.out HB.out) AllReadyH.nil ?_
  rintro v2 Y ⟨hu, hgr, ho⟩
  rw [<- HPV.out] at hgr ho
  obtain ⟨ao2, c3, hv2⟩ := hu.form
  generalize hLL : List.length (d.went.pend ++ _) = LL at hv2
  have MM := hide (Mid.of DX.out hu hgr ho)
  have OV : Hid (∀ k, v2.ownBlock = some k -> o.has k \/ w.heap.size <= k) := fun k hk => by rcases ho k hk with e | e; exact HOW.out k (Or.inr (Or.inr (Or.inr e))); exact Or.inr (ltr CX.out.size e)
  have SY : Y.heap[gw]? = some (.cells PCL.toArray 229 (0, 0)) := (hgr.block gw (aa GX.out) (fun e => absurd (HO1.out gw (Or.inr (Or.inr (Or.inr e.symm)))) (Nat.lt_irrefl _))).trans GX.out
  have RY : Hid (Y.heap[o1.g]? = _) := (hgr.block o1.g (aa DX.out.row) (fun e => (DX.out.psep _ e.symm).1 rfl)).trans DX.out.row
  subst hv2
  clear hu hgr ho hLL PX
  refine ⟨SY, fun hHeld => ?_⟩
  have SYH := hide SY
  clear SY
  simp only [uA]
  refine tq 8 ?_
  simp only [uA]
  refine tq 9 ?_
  simp only [uA]
  refine r1 10 fun K hK => ?_
  have c2 := (cells5 RY.out).2.2.1
  have f2 := frozen_of_row _ _ 2 _ _ RY.out
  go_simp
  have SZ : (Y.setCell ⟨o1.g, 2, none⟩ (.slice ao2 LL c3)).heap[gw]? = some (.cells PCL.toArray 229 (0, 0)) := (heap_setCell_other _ _ _ _ (fun e => by have := HO1.out o1.g (Or.inl rfl); have e' : gw = o1.g := e; omega)).trans SYH.out
  refine hK.out _ _ SZ (fun hHeld => ?_)
  clear hK K c2 f2
  try simp only [uA]
  refine wpAnyH_done (by kernel_rfl) ?_ _
  refine NoPanic.normal ?_
  clear hHeld RY SYH DX NX GX
  have SZH := hide SZ
  clear SZ
  generalize Y.setCell ⟨o1.g, 2, none⟩ _ = Z at MM SZH ⊢
  have HM := hide MM.out.1
  have CZ : Hid (Chg o.has w Z) := CX.out.trans MM.out.2 (fun j hj e => by rcases HOW.out j e with h' | h'; exact h'; omega)
  clear MM CX
  go_wp2_with fail
  have q1 : (0 : Int) <= (n : Int) := by omega
  have q2 : (n : Int) < (d.went.safe.length : Int) := by have : n < d.went.safe.length := HN.out; omega
  refine wp_region_noPanic ?_
  refine wp_region_held_drew (S := (fun W => W.heap[gw]? = some (.cells PCL.toArray 229 (0, 0)) /\ W.cell? ⟨o1.g, 1, none⟩ = some (.slice (some ⟨o1.ge, 0, none⟩) d.went.safe.length o1.ce))) follows ⟨SZH.out, (cells5 HM.out.row).2.1⟩ (fun hHeld => ?_)
  have HMd := hide HM.out.drew
  have CZd := hide CZ.out.drew
  have SZd : Hid (Z.drew.heap[gw]? = some (.cells PCL.toArray 229 (0, 0))) := SZH.out
  clear HM CZ SZH
  generalize Z.drew = Z1 at HMd CZd SZd hHeld ⊢
  have HM := HMd; have CZ := CZd; have SZH := SZd; clear HMd CZd SZd
  refine tq 0 ?_
  simp only [uA]
  refine tq 1 ?_
  simp only [uA]
  refine tq 2 ?_
  simp only [uA]
  refine tk 3 ?_ rfl (Or.inl ⟨by rfl, ?_⟩) ?_
  rotate_left
  ·intro w hSw
   have c1 := hSw.2
   clear hSw
   go_simp
   all_goals with_reducible rfl
  simp only [uA]
  refine tq 4 ?_
  simp only [uA]
  refine tq 5 ?_
  simp only [uA]
  refine wpAnyH_take (i := 6) (oi := ⟨_, _, _, _, _, _⟩) (v := .agg VL.toArray) rfl (by kernel_rfl) (by kernel_rfl) (by kernel_rfl) (fun _ _ _ h => h) (yieldsIf_load_mid (by kernel_rfl) 227 (.tmp 40) rfl gw 1 rfl VL _ (fun W hW => by rw [HVL.out]; exact nP (p := (n, t)) (by rw [<- Du.out]; exact hW.1)) Tryz.underlying227 rfl (by rw [rE, HVL.out, S.ae, HT.out])) (by assumption) ?_
  simp only [uA]
  refine tq 7 ?_
  simp only [uA]
  refine rdy [8] ?_
  have hth : Z1.there o1.ge (n * 128) VL.toArray.size := by rw [List.size_toArray, HVL.out, S.ae, HT.out]; exact HM.out.seen.there n (by rw [S.Dk.seen_length]; exact HN.out)
  have HC7 : Hid (Chg (fun k => k = o1.ge) Z1 (Z1.setCells o1.ge (n * 128) VL)) := Chg.setCells (p := fun k => k = o1.ge) o1.ge (fun _ => rfl) _ _ (Chg.refl _ _)
  refine dH (o := ⟨_, _, _, _, _, _⟩) rfl rfl 227 (.tmp 42) (.tmp 41) rfl (Z1.setCells o1.ge (n * 128) VL) (run_storeAt_mid Z1 o1.ge (n * 128) 227 VL.toArray hth (by rw [rE, List.size_toArray, HVL.out, S.ae, HT.out]) (by rw [HVL.out]; exact qX t)) AllReadyH.nil ⟨⟨HC7.out.row SZH.out (fun e => by have := HO1.out o1.ge (Or.inr (Or.inr (Or.inl rfl))); omega), (cells5 (HC7.out.row HM.out.row HD2.out.sep.2.1)).2.1⟩, fun hHeld => ?_⟩
  refine wpAnyH_done (by kernel_rfl) ?_ _
  refine NoPanic.normal ?_
  simp only [Act.put]
  clear hHeld hth SZH
  have FIN : Hid (aZ (Z1.setCells o1.ge (n * 128) VL) { o1 with pv := .slice ao2 LL c3 } (d.went.write n t)) := by rw [HVL.out]; exact HM.out.fin HD2.out HN.out HT.out
  have TO : Hid (dK o w { o1 with pv := .slice ao2 LL c3 } (Z1.setCells o1.ge (n * 128) VL)) := ⟨HG.out, CZ.out.trans HC7.out (fun j hj e => by have e' : j = o1.ge := e; rcases HOW.out j (Or.inr (Or.inr (Or.inl e'))) with h' | h'; exact h'; omega), fun k hk => by rcases hk with h' | h' | h' | h'; exact HOW.out k (Or.inl h'); exact HOW.out k (Or.inr (Or.inl h')); exact HOW.out k (Or.inr (Or.inr (Or.inl h'))); exact OV.out k h'⟩
  clear HC7
  go_wp2_with fail
  go_ret
  exact ⟨rfl, _, FIN.out, TO.out⟩
structure Loose (w : World) (o : Ow) (d : S.Dk) (ss es : List (List UInt8)) : Prop where
 row : w.heap[o.g]? = some (.cells #[.slice (some ⟨o.gs, 0, none⟩) d.safe.length o.cs, .slice (some ⟨o.ge, 0, none⟩) d.safe.length o.ce, o.pv, .bool d.left.isSome, .int .i64 o.lf] 73 (0, 0))
 safe : eH w o.gs ss
 sl : ss.length = d.safe.length
 seen : eH w o.ge es
 el : es.length = d.safe.length
 pend : jb w o.pv d.pend
theorem aZ.loose {w : World} {o : Ow} {d : S.Dk} (h : aZ w o d) : Loose w o d d.safe d.seen := ⟨h.row, h.safe, rfl, h.seen, S.Dk.seen_length _, h.pend⟩
theorem Loose.chg {p : Nat -> Prop} {w W : World} {o : Ow} {d : S.Dk} {ss es : List (List UInt8)} (h : Loose w o d ss es) (hc : Chg p w W) (hp : ∀ k, o.has k -> ¬ p k) : Loose W o d ss es :=
 ⟨hc.row h.row (hp _ (Or.inl rfl)), h.safe.chg hc (hp _ (Or.inr (Or.inl rfl))), h.sl, h.seen.chg hc (hp _ (Or.inr (Or.inr (Or.inl rfl)))), h.el, h.pend.chg hc (fun k hk => hp k (Or.inr (Or.inr (Or.inr hk))))⟩
theorem Loose.below {w W : World} {o : Ow} {d : S.Dk} {ss es : List (List UInt8)} (h : Loose w o d ss es) (hb : Below w.heap.size w W) : Loose W o d ss es := h.chg (p := fun _ => False) (Chg.ofBelow' hb) (fun _ _ e => e)
theorem Loose.lt {w : World} {o : Ow} {d : S.Dk} {ss es : List (List UInt8)} (h : Loose w o d ss es) : ∀ k, o.has k -> k < w.heap.size := by
 rintro k (rfl | rfl | rfl | hk)
 ·exact aa h.row
 ·exact h.safe.lt
 ·exact h.seen.lt
 ·exact h.pend.lt hk
theorem Loose.put {w w0 : World} {o : Ow} {d : S.Dk} {ss es : List (List UInt8)} (h : Loose w o d ss es) (hd : aZ w0 o d) (p : Nat) (hp : p < d.safe.length) (t : List UInt8) (ht : t.length = 128) : Loose (w.setCells o.gs (p * 128) (S.v8l t)) o d (ss.set p t) es := by
 have hc : Chg (fun k => k = o.gs) w (w.setCells o.gs (p * 128) (S.v8l t)) := Chg.setCells (p := fun k => k = o.gs) o.gs (fun _ => rfl) _ _ (Chg.refl _ _)
 exact ⟨hc.row h.row hd.sep.1, h.safe.store p (by rw [h.sl]; exact hp) t ht, by rw [List.length_set]; exact h.sl, h.seen.chg hc (fun e => hd.sep.2.2 e.symm), h.el, h.pend.chg hc (fun k hk => (hd.psep k hk).2.1)⟩
theorem zO {w : World} {g : Nat} {p : Nat × List UInt8} {t : TypeId} (h : w.heap[g]? = some (.cells (S.pc p).toArray t (0, 0))) : w.cell? ⟨g, 0, none⟩ = some (.int .i64 (p.1 : Int)) := by
 rw [cell_of_row w g 0 _ t (0, 0) h]; rfl
theorem load75 {w : World} {g c n : Nat} {p : S.Ws} (h : jb w (.slice (some ⟨g, 0, none⟩) n c) p) (hp : ∀ k, k < p.length -> (S.Ws.nth p k).2.length = 128) (k : Nat) (hk : k < p.length) : (Instr.loadAt 229 (.pointer (some ⟨g, k * 129, none⟩))).run Tryz.prog w = .ok (.agg (S.pc (S.Ws.nth p k)).toArray) w :=
 run_loadAt_mid w g (k * 129) 229 _ _ (h.range hp k hk) Tryz.underlying229 rfl (by rw [yO, S.jc _ (hp k hk)])
theorem zF (o : Ow) (d : S.Dk) (w : World) (hd : aZ w o d) (hg : d.goes = false) :
  Calls Tryz.prog 98 #[o.ptr] w fun e w' => e = .returned (.int .i64 13) /\ ∃ o', aZ w' o' d /\ dK o w o' w' := by
 have HD := hide hd
 have T := hide (S.Dk.tried_no hg)
 clear hd
 go_enter Tryz.func98, Tryz.ntmps98
 go_wp2_with fail
 refine (lU o d w HD.out).mono ?_
 rintro e w1 ⟨rfl, o1, h1, h2, _⟩
 rw [T.out] at h1
 have H1 := hide h1
 have H2 := hide h2
 clear h1 h2
 go_wp2
 go_ret
 exact ⟨rfl, o1, H1.out, H2.out⟩
theorem CF {w w1 : World} {o : Ow} {d : S.Dk} (h : aZ w1 o d) (hl : Loose w o d (S.eP d.safe d.pend d.pend.length) d.seen) (hc : Chg o.has w1 w) :
  aZ (w.setCell ⟨o.g, 2, none⟩ (.slice none 0 0)) { o with pv := .slice none 0 0 } d.flush /\ dK o w1 { o with pv := .slice none 0 0 } (w.setCell ⟨o.g, 2, none⟩ (.slice none 0 0)) := by
 have R := heap_setCell_same _ _ 2 _ _ (.slice none 0 0) hl.row
 have hco : Chg (fun k => k = o.g) w (w.setCell ⟨o.g, 2, none⟩ (.slice none 0 0)) := (Chg.refl (fun k => k = o.g) w).setCell o.g 2 _ (fun _ => rfl)
 have hn : d.flush.safe.length = d.safe.length := S.Dk.seen_length d
 refine ⟨⟨by rw [hn]; exact R, hl.safe.chg hco (fun e => h.sep.1 e.symm), hl.seen.chg hco (fun e => h.sep.2.1 e.symm), xy _, h.ok.flush, h.left, h.sep, fun k hk => (by cases hk), by rw [hn]; exact h.caps⟩, rfl, hc.setCell o.g 2 _ (fun _ => Or.inl rfl), fun k hk => ?_⟩
 rcases hk with e | e | e | e
 ·exact Or.inl (Or.inl e)
 ·exact Or.inl (Or.inr (Or.inl e))
 ·exact Or.inl (Or.inr (Or.inr (Or.inl e)))
 ·cases e
set_option maxHeartbeats 1600000 in
set_option maxRecDepth 100000 in
theorem CB (o : Ow) (d : S.Dk) (w : World) (hd : aZ w o d) (hg : d.goes = true) (hb : d.pend.length <= 1000000) :
  Calls Tryz.prog 98 #[o.ptr] w fun e w' => e = .returned (.int .i64 0) /\ ∃ o', aZ w' o' d.went.flush /\ dK o w o' w' := by
 have HD := hide hd
 have T := hide (S.Dk.tried_yes hg)
 clear hd
 go_enter Tryz.func98, Tryz.ntmps98
 go_wp2_with fail
 refine (lU o d w HD.out).mono ?_
 rintro e w1 ⟨rfl, o1, h1, h2, _⟩
 rw [T.out] at h1
 obtain ⟨DW, hDW⟩ : ∃ DW, DW = d.went := ⟨_, rfl⟩
 obtain ⟨N, hN⟩ : ∃ N, N = DW.pend.length := ⟨_, rfl⟩
 have hNb : N <= 1000000 := by rw [hN, hDW]; exact hb
 rw [<- hDW] at h1
 have HDW := hide hDW
 have H1 := hide h1
 have H2 := hide h2
 obtain ⟨aop, cp, hpv⟩ := h1.pend.form
 rw [<- hN] at hpv
 obtain ⟨c0, c1, c2, c3, c4⟩ := cells5 h1.row
 rw [hpv] at c2
 have HPV := hide hpv
 have HN := hide hN
 have HG := hide h2.g
 unfold Ow.ptr
 rw [<- h2.g]
 clear h1 h2 hpv hDW hN hb
 go_wp2_with fail
 clear c0 c1 c2 c3 c4
 go_loopw [13] (fun i wr => ∃ k : Nat, k <= N /\ i = .int .i64 (k : Int) /\ Loose wr o1 DW (S.eP DW.safe DW.pend k) DW.seen /\ Chg o1.has w1 wr) (fun i _ => N - (intOf i).toNat)
 case atStart => exact ⟨0, Nat.zero_le _, rfl, H1.out.loose, Chg.refl _ _⟩
 case round =>
  obtain ⟨k, hk, rfl, hl, hc⟩ := hrel
  have HL := hide hl
  have HC := hide hc
  by_cases hlt : k < N
  ·have hlt' : k < DW.pend.length := by rw [<- HN.out]; exact hlt
   obtain ⟨x, hx⟩ : ∃ x, x = S.Ws.nth DW.pend k := ⟨_, rfl⟩
   have hok := H1.out.ok.pend k hlt'
   rw [<- hx] at hok
   obtain ⟨gp, rfl⟩ : ∃ gp, aop = some ⟨gp, 0, none⟩ := by
    rcases hl.pend.shape with ⟨_, e⟩ | ⟨g, c, e, _⟩
    ·rw [e] at hlt'; exact absurd hlt' (Nat.not_lt_zero _)
    ·rw [HPV.out] at e
     simp only [Value.slice.injEq] at e
     exact ⟨g, e.1⟩
   have hpr := hl.pend
   rw [HPV.out] at hpr
   have hld := load75 hpr (fun j hj => (H1.out.ok.pend j hj).2) k hlt'
   have hst := Ae x hok.2 wr (.int .i64 0 :: S.v8l (S.zeros 128)).toArray (by simp [S.ae, S.zeros_length])
   have hal := AP
   obtain ⟨PCL, sH⟩ : ∃ PCL, PCL = S.pc x := ⟨_, rfl⟩
   obtain ⟨VL, hVL⟩ : ∃ VL, VL = S.v8l x.2 := ⟨_, rfl⟩
   obtain ⟨ZA, hZA⟩ : ∃ ZA, ZA = (Value.int .i64 0 :: S.v8l (S.zeros 128)).toArray := ⟨_, rfl⟩
   rw [<- hx, <- sH] at hld
   rw [<- hZA, <- sH] at hst
   simp only [<- hZA] at hal
   have q1 : (0 : Int) <= (k : Int) := by omega
   have q2 : (k : Int) < (N : Int) := by omega
   have q3 : IntKind.i64.wrap ((k : Int) + 1) = (k : Int) + 1 := by rw [IntKind.wrap_i64]; omega
   have HX := hide hx
   have Du := hide sH
   have HVL := hide hVL
   have HOK := hide hok
   clear hl hc hpr hx sH hVL hZA hok hlt'
   go_wp2_with (refine gH rfl 229 (.tmp 15) rfl (.agg PCL.toArray) hld ?_; refine ah rfl 229 rfl (.pointer (some ⟨wr.heap.size, 0, none⟩)) (wr.alloc (.cells ZA 229)) (hal _) ?_; refine fO rfl 229 (.tmp 4) (.tmp 16) rfl (wr.alloc (.cells PCL.toArray 229)) hst ?_)
   simp only [uA]
   clear hld hst hal
   have hbw : Below wr.heap.size wr (wr.alloc (.cells PCL.toArray 229)) := ba ..
   have HL2 := hide (HL.out.below hbw)
   have HC2 := hide (HC.out.trans (q := fun _ => False) (Chg.ofBelow' hbw) (fun _ _ e => e.elim))
   have HR2 : Hid ((wr.alloc (.cells PCL.toArray 229)).heap[wr.heap.size]? = some (.cells PCL.toArray 229 (0, 0))) := heap_alloc_new _ _
   have HLT := hide HL.out.lt
   have HSZ := hide HC.out.size
   clear hbw HL HC
   generalize wr.alloc (.cells PCL.toArray 229) = w2 at *
   generalize wr.heap.size = gw at *
   have q4 : (0 : Int) <= (x.1 : Int) := by omega
   have q5 : (x.1 : Int) < (DW.safe.length : Int) := by have := HOK.out.1; omega
   refine wp_region_noPanic ?_
   refine wp_region_held_drew (S := (fun W => W.heap[gw]? = some (.cells PCL.toArray 229 (0, 0)) /\ W.cell? ⟨o1.g, 0, none⟩ = some (.slice (some ⟨o1.gs, 0, none⟩) DW.safe.length o1.cs))) follows ⟨HR2.out, (cells5 HL2.out.row).1⟩ (fun hHeld => ?_)
   have HLd := hide (HL2.out.below (W := w2.drew) ((Chg.refl (fun _ => False) w2).drew.below _ (lr _) (fun _ _ e => e)))
   have HCd := hide HC2.out.drew
   have HRd : Hid (w2.drew.heap[gw]? = some (.cells PCL.toArray 229 (0, 0))) := HR2.out
   clear HL2 HC2 HR2
   generalize w2.drew = Z1 at HLd HCd HRd hHeld ⊢
   refine tq 0 ?_
   simp only [uA]
   refine tq 1 ?_
   simp only [uA]
   refine tq 2 ?_
   simp only [uA]
   refine tk 3 ?_ rfl (Or.inl ⟨by rfl, ?_⟩) ?_
   rotate_left
   ·intro w hSw
    have c0 := hSw.2
    clear hSw
    go_simp
    all_goals with_reducible rfl
   simp only [uA]
   refine tq 4 ?_
   simp only [uA]
   refine tk 5 ?_ rfl (Or.inl ⟨by rfl, ?_⟩) ?_
   rotate_left
   ·intro w hSw
    have cp0 : w.cell? ⟨gw, 0, none⟩ = some (.int .i64 (x.1 : Int)) := zO (p := x) (by rw [<- Du.out]; exact hSw.1)
    clear hSw
    go_simp
    all_goals with_reducible rfl
   simp only [uA]
   refine tq 6 ?_
   simp only [uA]
   refine wpAnyH_take (i := 7) (oi := ⟨_, _, _, _, _, _⟩) (v := .agg VL.toArray) rfl (by kernel_rfl) (by kernel_rfl) (by kernel_rfl) (fun _ _ _ h => h) (yieldsIf_load_mid (by kernel_rfl) 227 (.tmp 23) rfl gw 1 rfl VL _ (fun W hW => by rw [HVL.out]; exact nP (p := x) (by rw [<- Du.out]; exact hW.1)) Tryz.underlying227 rfl (by rw [rE, HVL.out, S.ae, HOK.out.2])) (by assumption) ?_
   simp only [uA]
   refine tq 8 ?_
   simp only [uA]
   refine rdy [9] ?_
   have hth : Z1.there o1.gs (x.1 * 128) VL.toArray.size := by rw [List.size_toArray, HVL.out, S.ae, HOK.out.2]; exact HLd.out.safe.there x.1 (by rw [HLd.out.sl]; exact HOK.out.1)
   have HC7 : Hid (Chg (fun k => k = o1.gs) Z1 (Z1.setCells o1.gs (x.1 * 128) VL)) := Chg.setCells (p := fun k => k = o1.gs) o1.gs (fun _ => rfl) _ _ (Chg.refl _ _)
   have HLN : Hid (Loose (Z1.setCells o1.gs (x.1 * 128) VL) o1 DW (S.eP DW.safe DW.pend (k + 1)) DW.seen) := by rw [HVL.out, S.eP, <- HX.out]; exact HLd.out.put H1.out x.1 HOK.out.1 x.2 HOK.out.2
   refine dH (o := ⟨_, _, _, _, _, _⟩) rfl rfl 227 (.tmp 25) (.tmp 24) rfl (Z1.setCells o1.gs (x.1 * 128) VL) (run_storeAt_mid Z1 o1.gs (x.1 * 128) 227 VL.toArray hth (by rw [rE, List.size_toArray, HVL.out, S.ae, HOK.out.2]) (by rw [HVL.out]; exact qX _)) AllReadyH.nil ⟨⟨HC7.out.row HRd.out (fun e => by have := HLT.out o1.gs (Or.inr (Or.inl rfl)); omega), (cells5 HLN.out.row).1⟩, fun hHeld => ?_⟩
   refine wpAnyH_done (by kernel_rfl) ?_ _
   refine NoPanic.normal ?_
   simp only [Act.put]
   clear hHeld hth HRd HLd
   have HCN : Hid (Chg o1.has w1 (Z1.setCells o1.gs (x.1 * 128) VL)) := HCd.out.trans HC7.out (fun j _ e => Or.inr (Or.inl e))
   clear HCd HC7
   generalize Z1.setCells o1.gs (x.1 * 128) VL = Z2 at *
   go_wp2_with fail
   go_roundw
   case rel => exact ⟨k + 1, by omega, by go_num, HLN.out, HCN.out⟩
   case measure => simp [intOf]; omega
  ·obtain rfl : k = N := by omega
   have q2 : ¬ ((k : Int) < (k : Int)) := by omega
   have hrow := hl.row
   rw [HPV.out] at hrow
   have f2 := frozen_of_row _ _ 2 _ _ hrow
   obtain ⟨c0, c1, c2, c3, c4⟩ := cells5 hrow
   have FIN : Hid (aZ (wr.setCell ⟨o1.g, 2, none⟩ (.slice none 0 0)) { o1 with pv := .slice none 0 0 } DW.flush /\ dK o1 w1 { o1 with pv := .slice none 0 0 } (wr.setCell ⟨o1.g, 2, none⟩ (.slice none 0 0))) := by
    rw [HN.out] at hl
    exact CF H1.out hl hc
   clear hl hc hrow
   go_wp2_with fail
   go_ret
   rw [<- HDW.out]
   exact ⟨rfl, _, FIN.out.1, H2.out.trans FIN.out.2⟩
end Go.Proofs.YteealihknndclabGreatDoor
namespace Go.Proofs.YteealihknndclabGreatDoor
open Go.RowKit
namespace S
end S
end Go.Proofs.YteealihknndclabGreatDoor
namespace Go.Proofs.YteealihknndclabGreatDoor
open Go.RowKit
theorem Chg.setRow {p : Nat -> Prop} {w : World} (g : Nat) (cs : Array Value) (hp : p g) : Chg p w (w.setRow g cs) :=
 ⟨rfl, rfl, rfl, by simp [World.setRow], fun k _ hn => setRow_other w g k cs (fun e => hn (by rw [e]; exact hp))⟩
theorem fP {bs bs' : List UInt8} {n k : Int} (m g : Nat) (v : Value) (w : World) (hn : n = (m : Int)) (h : bs ++ S.num m (S.size k) = bs') (hw : gW w g v bs) (hb : bs.length + 8 <= 140737488355328) :
  Calls Tryz.prog 75 #[.pointer (some ⟨g, 0, none⟩), .int .u64 n, .int .i64 k] w fun e w' => e = .returned (.tuple #[]) /\ ∃ v', gW w' g v' bs' /\ lN g v w v' w' := by
 rw [<- h, hn]
 exact kS g v bs m k w hw hb
theorem lN.base {g B : Nat} {v v' : Value} {w w' : World} (h : lN g v w v' w') (hB : B <= w.heap.size) (hg : B <= g) (hv : ∀ k, v.ownBlock = some k -> B <= k) : Below B w w' /\ ∀ k, v'.ownBlock = some k -> B <= k :=
 ⟨h.chg.below B hB (fun k hk e => by rcases e with e | e; omega; have := hv k e; omega), fun k hk => by rcases h.own k hk with e | e; exact hv k e; omega⟩
theorem Chg.base {g B : Nat} {w w' : World} (h : Chg (fun k => k = g) w w') (hB : B <= w.heap.size) (hg : B <= g) : Below B w w' := h.below B hB (fun k hk e => by omega)
theorem nQ (B : Nat) : ∀ k, (Value.slice none 0 0).ownBlock = some k -> B <= k := fun k h => by cases h
namespace S
def tag (f c k : Nat) : List UInt8 := num 53516 2 ++ num f 2 ++ num c 2 ++ num k 2
theorem aV (f c k : Nat) : (tag f c k).length = 8 := by simp [tag, ak]
def lenOf (n : Nat) : List UInt8 := num n 3
theorem bO (n : Nat) : (lenOf n).length = 3 := ak _ _
end S
theorem oQ : S.size 3 = 3 := by decide
def arv (p : Value) (f c : Nat) : Value := .agg #[p, .int .i64 (f : Int), .int .i64 (c : Int)]
theorem wrap64 (n : Nat) (h : n < 18446744073709551616) : IntKind.u64.wrap (n : Int) = (n : Int) := fA n h
theorem nT (ao : Option Addr) (n cap : Nat) (w : World) (hn : n <= 140737488355328) :
  Calls Tryz.prog 100 #[.slice ao n cap] w fun e w' => ∃ g, e = .returned (.slice (some ⟨g, 0, none⟩) 3 3) /\ w.heap.size <= g /\ w'.heap[g]? = some (.cells (S.v8 (S.lenOf n)) 5 (0, 0)) /\ Below w.heap.size w w' := by
 have hw := wrap64 n (by omega)
 go_enter Tryz.func100, Tryz.ntmps100
 go_wp2_with fail
 refine (iw w).mono ?_
 rintro e w1 ⟨rfl, h1, h2⟩
 have H1 := hide h1
 have H2 := hide h2
 have HS : Hid (w.heap.size <= w1.heap.size) := h2.size
 obtain ⟨gw, hgw⟩ : ∃ gw, gw = w.heap.size := ⟨_, rfl⟩
 rw [<- hgw]
 have HG : Hid (gw = w.heap.size) := hgw
 clear h1 h2 hgw
 go_wp2_with fail
 refine (fP n gw _ w1 rfl rfl (HG.out ▸ H1.out) (by decide)).mono ?_
 rintro e w2 ⟨rfl, v2, h3, h4⟩
 have hb2 := h4.base HS.out (Nat.le_of_eq HG.out.symm) (nQ _)
 have H3 := hide h3
 have H4 := hide hb2
 clear h3 h4 hb2
 go_wp2_with fail
 refine (lH gw v2 _ w2 H3.out (by simp [S.ak, oQ])).mono ?_
 rintro e w3 ⟨rfl, h5, h6⟩
 have hs := H4.out.1.size
 have hs1 := HS.out
 have H5 := hide h5
 have H6 := hide ((H2.out.trans H4.out.1).trans (h6.mono (ltr HS.out hs)))
 have HL : Hid (w.heap.size <= w2.heap.size) := ltr hs1 hs
 clear h5 h6 hs hs1
 go_wp2_with fail
 go_ret
 exact ⟨w2.heap.size, by simp [S.ak, oQ], HL.out, H5.out, H6.out⟩
def eX (w : World) (b : Nat) (p : Value) (f c : Nat) : Prop := w.heap[b]? = some (.cells #[p, .int .i64 (f : Int), .int .i64 (c : Int)] 182 (0, 0))
theorem eX.cells {w : World} {b f c : Nat} {p : Value} (h : eX w b p f c) : w.cell? ⟨b, 0, none⟩ = some p /\ w.cell? ⟨b, 1, none⟩ = some (.int .i64 (f : Int)) /\ w.cell? ⟨b, 2, none⟩ = some (.int .i64 (c : Int)) := cells3 h
theorem eX.below {w W : World} {b f c B : Nat} {p : Value} (h : eX w b p f c) (hb : Below B w W) (hB : b < B) : eX W b p f c := (hb.block b hB).trans h
set_option maxHeartbeats 800000 in
theorem qJ (p : Value) (f c k : Nat) (w : World) (hf : f <= 100000) (hc : c <= 100000) (hk : k <= 100000) :
  Calls Tryz.prog 177 #[arv p f c, .int .i64 (k : Int)] w fun e w' => ∃ g, e = .returned (.slice (some ⟨g, 0, none⟩) 8 8) /\ w.heap.size <= g /\ w'.heap[g]? = some (.cells (S.v8 (S.tag f c k)) 5 (0, 0)) /\ Below w.heap.size w w' := by
 have q1 := wrap64 f (by omega)
 have q2 := wrap64 c (by omega)
 have q3 := wrap64 k (by omega)
 obtain ⟨w0, hw0⟩ : ∃ w0, w0 = w.alloc (.cells #[p, .int .i64 (f : Int), .int .i64 (c : Int)] 182) := ⟨_, rfl⟩
 have HA : Hid (eX w0 w.heap.size p f c) := by rw [hw0]; exact heap_alloc_new _ _
 have HB : Hid (Below w.heap.size w w0) := by rw [hw0]; exact ba ..
 have HZ : Hid (w0.heap.size = w.heap.size + 1) := by show w0.heap.size = _; rw [hw0]; simp
 unfold arv
 go_enter Tryz.func177, Tryz.ntmps177
 go_wp2_with fail
 rw [<- hw0]
 clear hw0
 refine (iw w0).mono ?_
 rintro e w1 ⟨rfl, h1, h2⟩
 have H1 := hide h1
 have H2 : Hid (Below w0.heap.size w0 w1) := h2
 have N1 : Hid (∀ k, (Value.slice none 0 0).ownBlock = some k -> w0.heap.size <= k) := nQ _
 have S1 : Hid (w0.heap.size <= w1.heap.size) := h2.size
 obtain ⟨gw, hgw⟩ : ∃ gw, gw = w0.heap.size := ⟨_, rfl⟩
 rw [<- hgw]
 have HG : Hid (gw = w0.heap.size) := hgw
 clear h1 h2 hgw
 go_wp2_with fail
 refine (fP 53516 gw _ w1 rfl rfl (HG.out ▸ H1.out) (by decide)).mono ?_
 rintro e w2 ⟨rfl, v2, h3, h4⟩
 have W2 := hide h3
 have hb2 := h4.base S1.out (Nat.le_of_eq HG.out.symm) N1.out
 have N2 := hide hb2.2
 have B2 := hide (H2.out.trans hb2.1)
 have S2 : Hid (w0.heap.size <= w2.heap.size) := ltr S1.out hb2.1.size
 have hA2 := HA.out.below B2.out (by rw [HZ.out]; omega)
 obtain ⟨a0, a1, a2⟩ := hA2.cells
 clear h3 h4 hb2 hA2 a0 a2
 go_wp2_with fail
 refine (fP f gw _ w2 rfl rfl W2.out (by simp [S.ak, oU])).mono ?_
 rintro e w3 ⟨rfl, v3, h3, h4⟩
 have W3 := hide h3
 have hb3 := h4.base S2.out (Nat.le_of_eq HG.out.symm) N2.out
 have N3 := hide hb3.2
 have B3 := hide (B2.out.trans hb3.1)
 have S3 : Hid (w0.heap.size <= w3.heap.size) := ltr S2.out hb3.1.size
 have hA2 := HA.out.below B3.out (by rw [HZ.out]; omega)
 obtain ⟨a0, a3, a2⟩ := hA2.cells
 clear h3 h4 hb3 hA2 a0 a1 a3
 go_wp2_with fail
 refine (fP c gw _ w3 rfl rfl W3.out (by simp [S.ak, oU])).mono ?_
 rintro e w4 ⟨rfl, v4, h3, h4⟩
 have W4 := hide h3
 have hb3 := h4.base S3.out (Nat.le_of_eq HG.out.symm) N3.out
 have N4 := hide hb3.2
 have B4 := hide (B3.out.trans hb3.1)
 have S4 : Hid (w0.heap.size <= w4.heap.size) := ltr S3.out hb3.1.size
 clear h3 h4 hb3 a2
 go_wp2_with fail
 refine (fP k gw _ w4 rfl rfl W4.out (by simp [S.ak, oU])).mono ?_
 rintro e w5 ⟨rfl, v5, h3, h4⟩
 have W5 := hide h3
 have hb3 := h4.base S4.out (Nat.le_of_eq HG.out.symm) N4.out
 have B5 := hide (B4.out.trans hb3.1)
 have S5 : Hid (w0.heap.size <= w5.heap.size) := ltr S4.out hb3.1.size
 clear h3 h4 hb3
 go_wp2_with fail
 refine (lH gw v5 _ w5 W5.out (by simp [S.ak, oU])).mono ?_
 rintro e w6 ⟨rfl, h5, h6⟩
 have H5 := hide h5
 have hz := HZ.out
 have hs := S5.out
 have H6 : Hid (Below w.heap.size w w6) := HB.out.trans ((B5.out.mono (by omega)).trans (h6.mono (by omega)))
 have HL : Hid (w.heap.size <= w5.heap.size) := by show w.heap.size <= _; omega
 clear h5 h6 hs hz
 go_wp2_with fail
 go_ret
 refine ⟨w5.heap.size, by simp [S.ak, oU], HL.out, ?_, H6.out⟩
 have h := H5.out
 rw [List.nil_append] at h
 exact h
theorem lL (w : World) (p : Value) (f c : Nat) : ∃ w0, w0 = w.alloc (.cells #[p, .int .i64 (f : Int), .int .i64 (c : Int)] 182) /\ Hid (eX w0 w.heap.size p f c) /\ Hid (Below w.heap.size w w0) /\ Hid (w0.heap.size = w.heap.size + 1) :=
 ⟨_, rfl, heap_alloc_new _ _, ba .., by show (w.alloc _).heap.size = _; simp⟩
def S.room (c : Nat) : Nat := (c - 2) * 120
theorem pQ (w : World) (p : Value) (f c : Nat) : (w.alloc (.cells #[p, .int .i64 (f : Int), .int .i64 (c : Int)] 182)).cell? ⟨w.heap.size, 0, none⟩ = some p /\ (w.alloc (.cells #[p, .int .i64 (f : Int), .int .i64 (c : Int)] 182)).cell? ⟨w.heap.size, 1, none⟩ = some (.int .i64 (f : Int)) /\ (w.alloc (.cells #[p, .int .i64 (f : Int), .int .i64 (c : Int)] 182)).cell? ⟨w.heap.size, 2, none⟩ = some (.int .i64 (c : Int)) := cells3 (heap_alloc_new _ _)
theorem xk (p : Value) (f c : Nat) (w : World) (hc : c <= 100000) (h2 : 2 <= c) :
  Calls Tryz.prog 142 #[arv p f c] w fun e w' => e = .returned (.int .i64 (S.room c : Int)) /\ Below w.heap.size w w' := by
 obtain ⟨a0, a1, a2⟩ := pQ w p f c
 have E : Hid (((c : Int) - 2) * 120 = (S.room c : Int)) := by show _ = _; unfold S.room; omega
 have HB : Hid (Below w.heap.size w (w.alloc (.cells #[p, .int .i64 (f : Int), .int .i64 (c : Int)] 182))) := ba ..
 unfold arv
 go_enter Tryz.func142, Tryz.ntmps142
 clear a0 a1
 go_wp2_with fail
 go_ret
 exact ⟨by rw [<- E.out]; rfl, HB.out⟩
set_option maxRecDepth 10000 in
theorem qK (o : Ow) (d : S.Dk) (f c k : Nat) (w : World) (hd : aZ w o d) (h : f + k < d.safe.length) :
  Calls Tryz.prog 151 #[arv o.ptr f c, .int .i64 (k : Int)] w fun e w' => ∃ g, e = .returned (.slice (some ⟨g, 0, none⟩) 128 128) /\ w.heap.size <= g /\ w'.heap[g]? = some (.cells (S.v8 (d.seen.getD (f + k) [])) 5 (0, 0)) /\ Below w.heap.size w w' := by
 have hn := hd.n
 obtain ⟨w0, hw0, HA, HB, HZ⟩ := lL w o.ptr f c
 obtain ⟨a0, a1, a2⟩ := pQ w o.ptr f c
 have HD := hide (hd.below HB.out)
 have HO : Hid (f + k < d.safe.length) := h
 have q : (f : Int) + (k : Int) = ((f + k : Nat) : Int) := by omega
 have HQ : Hid ((f : Int) + (k : Int) = ((f + k : Nat) : Int)) := q
 have r1 : (f : Int) <= 8192 := by omega
 have r2 : (k : Int) <= 8192 := by omega
 clear hd h q
 unfold arv
 go_enter Tryz.func151, Tryz.ntmps151
 clear a2
 go_wp2_with fail
 rw [<- hw0, HQ.out]
 clear hw0 a0 a1
 refine (jP o d (f + k) w0 HD.out HO.out).mono ?_
 rintro e w1 ⟨rfl, h1, h2⟩
 have H1 := hide h1
 have H2 : Hid (Below w.heap.size w w1) := HB.out.trans (h2.mono (by have := HZ.out; omega))
 have H3 : Hid (w.heap.size <= w0.heap.size) := by show w.heap.size <= _; have := HZ.out; omega
 clear h1 h2
 go_wp2_with fail
 go_ret
 exact ⟨_, rfl, H3.out, H1.out, H2.out⟩
end Go.Proofs.YteealihknndclabGreatDoor
namespace Go.Proofs.YteealihknndclabGreatDoor
open Go.RowKit
namespace S
theorem Dk.plan_app (k : List Act) : ∀ (d : Dk) (l : List Act), d.plan (k ++ l) = if (d.plan k).2 = true then (d.plan k).1.plan l else d.plan k := by
 induction k with
 | nil => intro d l; simp [Dk.plan]
 | cons a k ih =>
  intro d l
  rw [List.cons_append, Dk.plan, Dk.plan]
  by_cases h : d.goes = true
  ·rw [if_pos h, if_pos h, ih]
  ·rw [if_neg h, if_neg h]
   rfl
def why (b : Bool) : Int := if b = true then 0 else 13
theorem Dk.goes_cases (d : Dk) : d.goes = true \/ d.goes = false := by cases d.goes <;> simp
theorem Dk.act_len (d : Dk) (a : Act) : (d.act a).safe.length = d.safe.length := by
 cases a with
 | write p t => rfl
 | flush => exact Dk.seen_length _
theorem Dk.plan_len (l : List Act) : ∀ d : Dk, (d.plan l).1.safe.length = d.safe.length := by
 induction l with
 | nil => intro d; rfl
 | cons a l ih =>
  intro d
  rw [Dk.plan]
  by_cases h : d.goes = true
  ·rw [if_pos h, ih, Dk.act_len]; rfl
  ·rw [if_neg h]
theorem Dk.plan_pend (l : List Act) : ∀ d : Dk, (d.plan l).1.pend.length <= d.pend.length + l.length := by
 induction l with
 | nil => intro d; exact lr _
 | cons a l ih =>
  intro d
  rw [Dk.plan]
  by_cases h : d.goes = true
  ·rw [if_pos h]
   refine ltr (ih _) ?_
   cases a with
   | write p t => simp [Dk.act, Dk.write, Dk.went]; omega
   | flush => simp [Dk.act, Dk.flush]; omega
  ·rw [if_neg h]; simp
end S
theorem dK.after {o o' : Ow} {w w0 w' : World} (h : dK o w0 o' w') (hb : Below w.heap.size w w0) : dK o w o' w' :=
 ⟨h.g, (Chg.ofBelow' hb).trans h.chg (fun _ _ e => e), fun k hk => by rcases h.own k hk with e | e; exact Or.inl e; exact Or.inr (ltr hb.size e)⟩
theorem dK.then {o o' : Ow} {w w1 w2 : World} (h : dK o w o' w1) (hb : Below w1.heap.size w1 w2) : dK o w o' w2 :=
 h.trans ⟨rfl, Chg.ofBelow' hb, fun _ e => Or.inl e⟩
def Does (d : S.Dk) (l : List S.Act) (o : Ow) (w : World) (e : Ending) (w' : World) : Prop :=
 e = .returned (.int .i64 (S.why (d.plan l).2)) /\ ∃ o', aZ w' o' (d.plan l).1 /\ dK o w o' w'
theorem qU (o : Ow) (d : S.Dk) (n : Nat) (ao : Option Addr) (cap : Nat) (t : List UInt8) (w : World) (hd : aZ w o d) (hn : n < d.safe.length) (ht : t.length = 128) (hb : d.pend.length <= 1000000) (hv : ∀ W, Chg (fun k => k = o.g) w W -> SliceAt W (.slice ao 128 cap) t) :
  Calls Tryz.prog 111 #[o.ptr, .int .i64 (n : Int), .slice ao 128 cap] w (Does d [.write n t] o w) := by
 rcases d.goes_cases with h | h
 ·refine (Bb o d n _ t w hd hn h ht hb hv).mono ?_
  rintro e w' ⟨rfl, o', h1, h2⟩
  unfold Does
  rw [S.Dk.plan, if_pos h]
  exact ⟨rfl, o', h1, h2⟩
 ·refine (yC o d n ao cap w hd hn h).mono ?_
  rintro e w' ⟨rfl, o', h1, h2⟩
  unfold Does
  rw [S.Dk.plan, if_neg (by rw [h]; decide)]
  exact ⟨rfl, o', h1, h2⟩
theorem lD (o : Ow) (d : S.Dk) (w : World) (hd : aZ w o d) (hb : d.pend.length <= 1000000) :
  Calls Tryz.prog 98 #[o.ptr] w (Does d [.flush] o w) := by
 rcases d.goes_cases with h | h
 ·refine (CB o d w hd h hb).mono ?_
  rintro e w' ⟨rfl, o', h1, h2⟩
  unfold Does
  rw [S.Dk.plan, if_pos h]
  exact ⟨rfl, o', h1, h2⟩
 ·refine (zF o d w hd h).mono ?_
  rintro e w' ⟨rfl, o', h1, h2⟩
  unfold Does
  rw [S.Dk.plan, if_neg (by rw [h]; decide)]
  exact ⟨rfl, o', h1, h2⟩
set_option maxRecDepth 10000 in
theorem wN (o : Ow) (d : S.Dk) (f c k : Nat) (ao : Option Addr) (cap : Nat) (t : List UInt8) (w : World) (hd : aZ w o d) (h : f + k < d.safe.length) (ht : t.length = 128) (hb : d.pend.length <= 1000000) (hv : ∀ W, Chg (fun k => k = o.g) w W -> SliceAt W (.slice ao 128 cap) t) :
  Calls Tryz.prog 152 #[arv o.ptr f c, .int .i64 (k : Int), .slice ao 128 cap] w (Does d [.write (f + k) t] o w) := by
 have hn := hd.n
 obtain ⟨w0, hw0, HA, HB, HZ⟩ := lL w o.ptr f c
 obtain ⟨a0, a1, a2⟩ := pQ w o.ptr f c
 have HD := hide (hd.below HB.out)
 have HO : Hid (f + k < d.safe.length) := h
 have HQ : Hid ((f : Int) + (k : Int) = ((f + k : Nat) : Int)) := by show _ = _; omega
 have HV : Hid (∀ W, Chg (fun k => k = o.g) w0 W -> SliceAt W (.slice ao 128 cap) t) := fun W hW => hv W ((Chg.ofBelow' HB.out).trans hW (fun _ _ e => e))
 have r1 : (f : Int) <= 8192 := by omega
 have r2 : (k : Int) <= 8192 := by omega
 clear hd h hv
 unfold arv
 go_enter Tryz.func152, Tryz.ntmps152
 clear a2
 go_wp2_with fail
 rw [<- hw0, HQ.out]
 clear hw0 a0 a1
 refine (qU o d (f + k) ao cap t w0 HD.out HO.out ht hb HV.out).mono ?_
 rintro e w1 ⟨rfl, o1, h1, h2⟩
 have H : Hid (Does d [.write (f + k) t] o w (.returned (.int .i64 (S.why (d.plan [.write (f + k) t]).2))) w1) := ⟨rfl, o1, h1, h2.after HB.out⟩
 clear h1 h2
 generalize S.why (d.plan [.write (f + k) t]).2 = y at H ⊢
 go_wp2_with fail
 go_ret
 exact H.out
end Go.Proofs.YteealihknndclabGreatDoor
namespace Go.Proofs.YteealihknndclabGreatDoor
open Go.RowKit
theorem eX.dk {w0 w1 : World} {o o1 : Ow} {b f c : Nat} {p : Value} (h : eX w0 b p f c) (ht : dK o w0 o1 w1) (hb : ¬ o.has b) : eX w1 b p f c := ht.chg.row h hb
theorem Does.start {d : S.Dk} {l : List S.Act} {o : Ow} {w : World} {e : Ending} {w' : World} (h : Does d l o w e w') : ∃ b d1 o1, e = .returned (.int .i64 (S.why b)) /\ d.plan l = (d1, b) /\ aZ w' o1 d1 /\ dK o w o1 w' := by
 obtain ⟨h1, o1, h2, h3⟩ := h
 exact ⟨_, _, o1, h1, rfl, h2, h3⟩
theorem Does.stop {d d1 : S.Dk} {k l : List S.Act} {o o1 : Ow} {w w' : World} (h : d.plan k = (d1, false)) (h2 : aZ w' o1 d1) (h3 : dK o w o1 w') : Does d (k ++ l) o w (.returned (.int .i64 13)) w' := by
 unfold Does
 rw [S.Dk.plan_app, h]
 exact ⟨rfl, o1, h2, h3⟩
theorem Does.on {d d1 : S.Dk} {k l : List S.Act} {o o1 : Ow} {w w1 w' : World} {e : Ending} (h : d.plan k = (d1, true)) (h3 : dK o w o1 w1) (h4 : Does d1 l o1 w1 e w') : Does d (k ++ l) o w e w' := by
 unfold Does
 rw [S.Dk.plan_app, h]
 obtain ⟨h5, o2, h6, h7⟩ := h4
 exact ⟨h5, o2, h6, h3.trans h7⟩
theorem Does.after {d : S.Dk} {l : List S.Act} {o : Ow} {w w0 w' : World} {e : Ending} (h : Does d l o w0 e w') (hb : Below w.heap.size w w0) : Does d l o w e w' := by
 obtain ⟨h1, o1, h2, h3⟩ := h
 exact ⟨h1, o1, h2, h3.after hb⟩
set_option maxRecDepth 10000 in
theorem mg (o : Ow) (d : S.Dk) (f c k : Nat) (ao : Option Addr) (cap : Nat) (t : List UInt8) (w : World) (hd : aZ w o d) (h : f + k < d.safe.length) (ht : t.length = 128) (hb : d.pend.length <= 999999) (hv : ∀ W, Chg (fun k => k = o.g) w W -> SliceAt W (.slice ao 128 cap) t) :
  Calls Tryz.prog 150 #[arv o.ptr f c, .int .i64 (k : Int), .slice ao 128 cap] w (Does d [.write (f + k) t, .flush] o w) := by
 have hn := hd.n
 obtain ⟨w0, hw0, HA, HB, HZ⟩ := lL w o.ptr f c
 obtain ⟨a0, a1, a2⟩ := pQ w o.ptr f c
 have HD := hide (hd.below HB.out)
 have HO : Hid (f + k < d.safe.length) := h
 have HN : Hid (¬ o.has w.heap.size) := fun e => by have := hd.lt _ e; omega
 have HV : Hid (∀ W, Chg (fun k => k = o.g) w0 W -> SliceAt W (.slice ao 128 cap) t) := fun W hW => hv W ((Chg.ofBelow' HB.out).trans hW (fun _ _ e => e))
 clear hd h hv
 unfold arv
 go_enter Tryz.func150, Tryz.ntmps150
 go_wp2_with fail
 rw [<- hw0]
 clear hw0 a0 a1 a2
 refine (wN o d f c k ao cap t w0 HD.out HO.out ht (by omega) HV.out).mono ?_
 intro e w1 hdo
 obtain ⟨b, d1, o1, rfl, h1, h2, h3⟩ := hdo.start
 have hp : d1.pend.length <= 1000000 := by
  have := S.Dk.plan_pend [.write (f + k) t] d
  rw [h1] at this
  simp at this
  omega
 have HP := hide hp
 have H1 := hide h1
 have H2 := hide h2
 have H3 := hide h3
 obtain ⟨a0, _, _⟩ := (HA.out.dk h3 HN.out).cells
 have hg : o1.ptr = o.ptr := by unfold Ow.ptr; rw [h3.g]
 rw [<- hg] at a0
 clear hdo h1 h2 h3 hp hg
 cases b with
 | false =>
  have E : S.why false = 13 := rfl
  rw [E]
  go_wp2_with fail
  go_ret
  exact (Does.stop (l := [.flush]) H1.out H2.out H3.out).after HB.out
 | true =>
  have E : S.why true = 0 := rfl
  rw [E]
  go_wp2_with fail
  refine (lD o1 d1 w1 H2.out HP.out).mono ?_
  intro e w2 hdo
  have h4 : Does d ([.write (f + k) t] ++ [.flush]) o w e w2 := (Does.on H1.out H3.out hdo).after HB.out
  obtain ⟨b, d2, o2, rfl, h5, h6, h7⟩ := h4.start
  have H4 := hide h4
  clear h4 h5 h6 h7 hdo
  generalize S.why b = y at H4 ⊢
  go_wp2_with fail
  go_ret
  exact H4.out
end Go.Proofs.YteealihknndclabGreatDoor
