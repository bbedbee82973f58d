/- Widths that count, and the greatest power of two below a number (both ways of reckoning it). -/
import Derived.Test.YtlcilclhaahopaaDoorJoin
import Derived.Test.YtlcilclhaahopaaDoorWithin
import Derived.Laws.EntriesVeiled
import Derived.Great.BuildSlice
namespace Go.Proofs.YtlcilclhaahopaaDoor
open Go.RowKit

namespace S
end S
end Go.Proofs.YtlcilclhaahopaaDoor
namespace Go.Proofs.YtlcilclhaahopaaDoor
open Go.RowKit

namespace S
end S
theorem size_dig (d : List UInt8) (hd : d.length = 32) : (Tryd.prog.info? 25).map (·.size) = some (S.v8 d).size := by rw [S.v8_size, hd]; exact size23
theorem zeros_dig (d : List UInt8) (hd : d.length = 32) : (S.v8 (S.zeros 32)).size = (S.v8 d).size := by rw [S.v8_size, S.v8_size, hd]; rfl
set_option maxHeartbeats 800000 in
set_option maxRecDepth 10000 in
theorem join_nil (w : World) : Calls Tryd.prog 37 #[.slice none 0 0] w fun e w' => ∃ g', e = .returned (.slice (some ⟨g', 0, none⟩) 0 0) ∧ Below w.heap.size w w' := by
  have hmk : ∀ w, (Instr.makeSlice 30 (.int .i64 0) (.int .i64 0)).run Tryd.prog w = .ok (.slice (some ⟨w.heap.size, 0, none⟩) 0 0) (w.alloc (.cells (madeCells #[.int .u8 0] 0) 5)) := fun w => make_room 0 (by omega) w
  go_enter Tryd.func37, Tryd.ntmps37
  go_wp2
  go_loopw [3, 11] (fun s i wr => i = .int .i64 0 ∧ s = .int .i64 0 ∧ w = wr) (fun _ _ _ => 0)
  case atStart => exact ⟨rfl, rfl, rfl⟩
  case round =>
    obtain ⟨rfl, rfl, rfl⟩ := hrel
    go_wp2
    generalize hW0 : w.alloc _ = W0
    have B0 : Below w.heap.size w W0 := by rw [← hW0]; exact (Below.refl _ _).alloc (Nat.le_refl _) _
    have BH := hide B0
    clear hW0 B0
    go_loopw [6, 24] (fun s i wr => i = .int .i64 0 ∧ s = .slice (some ⟨w.heap.size, 0, none⟩) 0 0 ∧ W0 = wr) (fun _ _ _ => 0)
    case atStart => exact ⟨rfl, rfl, rfl⟩
    case round =>
      obtain ⟨rfl, rfl, rfl⟩ := hrel
      go_wp2
      go_ret
      exact ⟨_, rfl, BH.out⟩
theorem one8_at {w : World} {g : Nat} {x : UInt8} {c : Int} (hc : c = (x.toNat : Int)) (h : w.heap[g]? = some (.cells #[.int .u8 c] 5 (0, 0))) : SliceAt w (.slice (some ⟨g, 0, none⟩) 1 1) [x] :=
  Or.inr (Or.inr ⟨g, 0, 1, rfl, Nat.le_refl _, by simp, block_lt_of_row h, fun j hj => by
    obtain rfl : j = 0 := by simp at hj; exact hj
    rw [cell_of_row w g (0 + 0) _ _ _ h, hc]; rfl⟩)
end Go.Proofs.YtlcilclhaahopaaDoor
namespace Go.Proofs.YtlcilclhaahopaaDoor
open Go.RowKit
theorem wpList_build_known {w : World} {ops : Array Oper} {rest : List Oper} {o : Oper} {a : Act} {Q : Exit → Act → World → Prop} (hgd : o.guard = none) (t : TypeId) (parts : List (Nat × Operand)) (ho : o.op = .build t parts.toArray) (v : Value)
    (hr : (Instr.build t (parts.map fun p => (p.1, a.eval p.2)).toArray).run Tryd.prog w = .ok v w) (h : wpList Tryd.prog ops Q rest (a.put o.dst v) w) : wpList Tryd.prog ops Q (o :: rest) a w :=
  wpList_plain hgd fun _ hK => by
    unfold Oper.wp execOp
    simp only [ho, Sem.run_bind, List.map_toArray, hr, Result.andThen_ok]
    exact hK _ _ h
theorem wpList_alloc_known {w : World} {ops : Array Oper} {rest : List Oper} {o : Oper} {a : Act} {Q : Exit → Act → World → Prop} (hgd : o.guard = none) (t : TypeId) (ho : o.op = .alloc t) (v : Value) (w' : World)
    (hr : (Instr.alloc t true (.tuple #[])).run Tryd.prog w = .ok v w') (h : wpList Tryd.prog ops Q rest (a.put o.dst v) w') : wpList Tryd.prog ops Q (o :: rest) a w :=
  wpList_plain hgd fun _ hK => by
    unfold Oper.wp execOp
    simp only [ho, Sem.run_bind, hr, Result.andThen_ok]
    exact hK _ _ h
theorem wpList_store_known {w : World} {ops : Array Oper} {rest : List Oper} {o : Oper} {a : Act} {Q : Exit → Act → World → Prop} (hgd : o.guard = none) (t : TypeId) (x y : Operand) (ho : o.op = .store t x y) (w' : World)
    (hr : (Instr.storeAt t (a.eval x) (a.eval y)).run Tryd.prog w = .ok () w') (h : wpList Tryd.prog ops Q rest (a.put o.dst undef) w') : wpList Tryd.prog ops Q (o :: rest) a w :=
  wpList_plain hgd fun _ hK => by
    unfold Oper.wp execOp
    simp only [ho, Sem.run_bind, hr, Result.andThen_ok, Sem.run_pure]
    exact hK _ _ h
theorem wpList_load_known {w : World} {ops : Array Oper} {rest : List Oper} {o : Oper} {a : Act} {Q : Exit → Act → World → Prop} (hgd : o.guard = none) (t : TypeId) (x : Operand) (ho : o.op = .load t x) (v : Value)
    (hr : (Instr.loadAt t (a.eval x)).run Tryd.prog w = .ok v w) (h : wpList Tryd.prog ops Q rest (a.put o.dst v) w) : wpList Tryd.prog ops Q (o :: rest) a w :=
  wpList_plain hgd fun _ hK => by
    unfold Oper.wp execOp
    simp only [ho, Sem.run_bind, hr, Result.andThen_ok]
    exact hK _ _ h
theorem wpList_assign_known {w : World} {ops : Array Oper} {rest : List Oper} {o : Oper} {a : Act} {Q : Exit → Act → World → Prop} (hgd : o.guard = none) (x : Operand) (ho : o.op = .assign x) (h : wpList Tryd.prog ops Q rest (a.put o.dst (a.eval x)) w) : wpList Tryd.prog ops Q (o :: rest) a w :=
  wpList_plain hgd fun _ hK => by
    unfold Oper.wp execOp
    simp only [ho, Sem.run_pure]
    exact hK _ _ h
/-- Steps of a drawn region whose runs are known. -/
theorem step_buildSlice {md : Region.Mode} {ops : Array Oper} {Q : Exit → Act → World → Prop} {S : World → Prop} {fuel : Nat} {listed : Array Bool} {a : Act} {w : World} {i : Nat} {o : Oper} {rs : List Nat} (ho : ops[i]? = some o) (hgd : o.guard = none) (t : TypeId) (n : Nat) (parts : List (Nat × Operand))
    (hop : o.op = .buildSlice t n parts.toArray) (v' : Value) (w' : World) (hr : (Instr.buildSlice t n (parts.map fun p => (p.1, a.eval p.2)).toArray).run Tryd.prog w = .ok v' w') (hrest : AllReadyH Tryd.prog md ops Q S fuel listed a w rs)
    (h : S w' ∧ (S w' → wpAnyH Tryd.prog md ops Q S fuel (listed.setIfInBounds i true) (a.put o.dst v') w')) : AllReadyH Tryd.prog md ops Q S fuel listed a w (i :: rs) := by
  refine AllReadyH.cons ho (fun K hK => ?_) hrest
  rw [if_pos (by simp [Region.wanted, hgd])]
  unfold Oper.wp execOp
  simp only [hop, Sem.run_bind, List.map_toArray, hr, Result.andThen_ok]
  exact hK.out _ _ h.1 h.2
theorem step_store {md : Region.Mode} {ops : Array Oper} {Q : Exit → Act → World → Prop} {S : World → Prop} {fuel : Nat} {listed : Array Bool} {a : Act} {w : World} {i : Nat} {o : Oper} {rs : List Nat} (ho : ops[i]? = some o) (hgd : o.guard = none) (t : TypeId) (x y : Operand)
    (hop : o.op = .store t x y) (w' : World) (hr : (Instr.storeAt t (a.eval x) (a.eval y)).run Tryd.prog w = .ok () w') (hrest : AllReadyH Tryd.prog md ops Q S fuel listed a w rs)
    (h : S w' ∧ (S w' → wpAnyH Tryd.prog md ops Q S fuel (listed.setIfInBounds i true) (a.put o.dst undef) w')) : AllReadyH Tryd.prog md ops Q S fuel listed a w (i :: rs) := by
  refine AllReadyH.cons ho (fun K hK => ?_) hrest
  rw [if_pos (by simp [Region.wanted, hgd])]
  unfold Oper.wp execOp
  simp only [hop, Sem.run_bind, hr, Result.andThen_ok, Sem.run_pure]
  exact hK.out _ _ h.1 h.2
theorem step_load {md : Region.Mode} {ops : Array Oper} {Q : Exit → Act → World → Prop} {S : World → Prop} {fuel : Nat} {listed : Array Bool} {a : Act} {w : World} {i : Nat} {o : Oper} {rs : List Nat} (ho : ops[i]? = some o) (hgd : o.guard = none) (t : TypeId) (x : Operand)
    (hop : o.op = .load t x) (v' : Value) (hr : (Instr.loadAt t (a.eval x)).run Tryd.prog w = .ok v' w) (hrest : AllReadyH Tryd.prog md ops Q S fuel listed a w rs)
    (h : S w ∧ (S w → wpAnyH Tryd.prog md ops Q S fuel (listed.setIfInBounds i true) (a.put o.dst v') w)) : AllReadyH Tryd.prog md ops Q S fuel listed a w (i :: rs) := by
  refine AllReadyH.cons ho (fun K hK => ?_) hrest
  rw [if_pos (by simp [Region.wanted, hgd])]
  unfold Oper.wp execOp
  simp only [hop, Sem.run_bind, hr, Result.andThen_ok]
  exact hK.out _ _ h.1 h.2
theorem rangeAt_row {w : World} {g : Nat} {cs : List Value} {t : TypeId} (h : w.heap[g]? = some (.cells cs.toArray t (0, 0))) : w.rangeAt g 0 cs := fun j v hv => by
  rw [Nat.zero_add, cell_of_row w g j _ t (0, 0) h]; simpa using hv

theorem wpList_build_as {w : World} {ops : Array Oper} {rest : List Oper} {o : Oper} {a : Act} {Q : Exit → Act → World → Prop} (hgd : o.guard = none) (t : TypeId) (parts : List (Nat × Operand)) (ho : o.op = .build t parts.toArray) (vs : List (Nat × Value)) (hvs : (parts.map fun p => (p.1, a.eval p.2)) = vs) (v : Value)
    (hr : (Instr.build t vs.toArray).run Tryd.prog w = .ok v w) (h : wpList Tryd.prog ops Q rest (a.put o.dst v) w) : wpList Tryd.prog ops Q (o :: rest) a w := by
  subst hvs
  exact wpList_build_known hgd t parts ho v hr h
theorem wpList_store_as {w : World} {ops : Array Oper} {rest : List Oper} {o : Oper} {a : Act} {Q : Exit → Act → World → Prop} (hgd : o.guard = none) (t : TypeId) (x y : Operand) (ho : o.op = .store t x y) (vx vy : Value) (hx : a.eval x = vx) (hy : a.eval y = vy) (w' : World)
    (hr : (Instr.storeAt t vx vy).run Tryd.prog w = .ok () w') (h : wpList Tryd.prog ops Q rest (a.put o.dst undef) w') : wpList Tryd.prog ops Q (o :: rest) a w := by
  subst hx; subst hy
  exact wpList_store_known hgd t x y ho w' hr h
theorem wpList_load_as {w : World} {ops : Array Oper} {rest : List Oper} {o : Oper} {a : Act} {Q : Exit → Act → World → Prop} (hgd : o.guard = none) (t : TypeId) (x : Operand) (ho : o.op = .load t x) (vx : Value) (hx : a.eval x = vx) (v : Value)
    (hr : (Instr.loadAt t vx).run Tryd.prog w = .ok v w) (h : wpList Tryd.prog ops Q rest (a.put o.dst v) w) : wpList Tryd.prog ops Q (o :: rest) a w := by
  subst hx
  exact wpList_load_known hgd t x ho v hr h
theorem wpList_buildSlice_as {w : World} {ops : Array Oper} {rest : List Oper} {o : Oper} {a : Act} {Q : Exit → Act → World → Prop} (hgd : o.guard = none) (t : TypeId) (n : Nat) (parts : List (Nat × Operand)) (ho : o.op = .buildSlice t n parts.toArray) (vs : List (Nat × Value)) (hvs : (parts.map fun p => (p.1, a.eval p.2)) = vs) (v : Value) (w' : World)
    (hr : (Instr.buildSlice t n vs.toArray).run Tryd.prog w = .ok v w') (h : wpList Tryd.prog ops Q rest (a.put o.dst v) w') : wpList Tryd.prog ops Q (o :: rest) a w := by
  subst hvs
  exact wpList_plain hgd fun _ hK => by
    unfold Oper.wp execOp
    simp only [ho, Sem.run_bind, List.map_toArray, hr, Result.andThen_ok]
    exact hK _ _ h
/-- The same operation: a guard ahead of a law for one operation. -/
theorem at_op (o : Oper) {ops : Array Oper} {rest : List Oper} {a : Act} {Q : Exit → Act → World → Prop} {w : World} (h : wpList Tryd.prog ops Q (o :: rest) a w) : wpList Tryd.prog ops Q (o :: rest) a w := h
theorem step_buildSlice_as {md : Region.Mode} {ops : Array Oper} {Q : Exit → Act → World → Prop} {S : World → Prop} {fuel : Nat} {listed : Array Bool} {a : Act} {w : World} {i : Nat} {o : Oper} {rs : List Nat} (ho : ops[i]? = some o) (hgd : o.guard = none) (t : TypeId) (n : Nat) (parts : List (Nat × Operand))
    (hop : o.op = .buildSlice t n parts.toArray) (vs : List (Nat × Value)) (hvs : (parts.map fun p => (p.1, a.eval p.2)) = vs) (v' : Value) (w' : World) (hr : (Instr.buildSlice t n vs.toArray).run Tryd.prog w = .ok v' w') (hrest : AllReadyH Tryd.prog md ops Q S fuel listed a w rs)
    (h : S w' ∧ (S w' → wpAnyH Tryd.prog md ops Q S fuel (listed.setIfInBounds i true) (a.put o.dst v') w')) : AllReadyH Tryd.prog md ops Q S fuel listed a w (i :: rs) := by
  subst hvs
  exact step_buildSlice ho hgd t n parts hop v' w' hr hrest h
theorem step_store_as {md : Region.Mode} {ops : Array Oper} {Q : Exit → Act → World → Prop} {S : World → Prop} {fuel : Nat} {listed : Array Bool} {a : Act} {w : World} {i : Nat} {o : Oper} {rs : List Nat} (ho : ops[i]? = some o) (hgd : o.guard = none) (t : TypeId) (x y : Operand)
    (hop : o.op = .store t x y) (vx vy : Value) (hx : a.eval x = vx) (hy : a.eval y = vy) (w' : World) (hr : (Instr.storeAt t vx vy).run Tryd.prog w = .ok () w') (hrest : AllReadyH Tryd.prog md ops Q S fuel listed a w rs)
    (h : S w' ∧ (S w' → wpAnyH Tryd.prog md ops Q S fuel (listed.setIfInBounds i true) (a.put o.dst undef) w')) : AllReadyH Tryd.prog md ops Q S fuel listed a w (i :: rs) := by
  subst hx; subst hy
  exact step_store ho hgd t x y hop w' hr hrest h
/-- An append of a drawn region whose run is known. -/
theorem step_append_as {md : Region.Mode} {ops : Array Oper} {Q : Exit → Act → World → Prop} {S : World → Prop} {fuel : Nat} {listed : Array Bool} {a : Act} {w : World} {i : Nat} {o : Oper} {rs : List Nat} (ho : ops[i]? = some o) (hgd : o.guard = none) (x y : Operand) (t tn : TypeId)
    (hop : o.op = .call { callee := .builtin .append, args := #[x, y], argTypes := #[t, tn] }) (vx vy : Value) (hx : a.eval x = vx) (hy : a.eval y = vy) (v' : Value) (w' : World) (hr : (Builtin.append_ #[t, tn] o.type #[vx, vy]).run Tryd.prog w = .ok v' w') (hrest : AllReadyH Tryd.prog md ops Q S fuel listed a w rs)
    (h : S w' ∧ (S w' → wpAnyH Tryd.prog md ops Q S fuel (listed.setIfInBounds i true) (a.put o.dst v') w')) : AllReadyH Tryd.prog md ops Q S fuel listed a w (i :: rs) := by
  refine AllReadyH.cons ho (fun K hK => ?_) hrest
  rw [if_pos (by simp [Region.wanted, hgd])]
  exact Lib.wp_append_run w x y t tn hop vx vy hx hy v' w' hr (hK.out _ _ h.1 h.2)
/-- A digest is stored where noughts (or another digest) lay. -/
theorem store_dig {w : World} {g : Nat} {c D : List UInt8} (h : w.heap[g]? = some (.cells (S.v8 c) 25 (0, 0))) (hc : c.length = 32) (hD : D.length = 32) :
    ∃ w', (Instr.storeAt 25 (.pointer (some ⟨g, 0, none⟩)) (.agg (S.v8 D))).run Tryd.prog w = .ok () w' ∧ w'.heap[g]? = some (.cells (S.v8 D) 25 (0, 0)) ∧ Chg (fun k => k = g) w w' ∧ w'.heap.size = w.heap.size := by
  have hr := run_storeVar_row (P := Tryd.prog) w g 25 25 (S.v8 c) (S.v8 D) h (size_dig D hD) (by rw [S.v8_size, S.v8_size, hc, hD]) (S.v8_one _)
  refine ⟨w.setRow g (S.v8 D), ?_, setRow_heap _ _ _ _ _ _ h, ?_, ?_⟩
  · simp only [Instr.storeAt, Instr.sureAddr, Sem.run_bind, Sem.run_pure, Result.andThen_ok, hr]
  · exact ⟨rfl, rfl, rfl, by simp, fun k _ hk => setRow_other _ _ _ _ hk⟩
  · simp
/-- The first bytes of a digest that lies in memory, as a slice. -/
theorem dig_part {w : World} {g : Nat} {d : List UInt8} (h : w.heap[g]? = some (.cells (S.v8 d) 25 (0, 0))) (hd : d.length = 32) (n : Nat) (hn : n ≤ 32) : SliceAt w (.slice (some ⟨g, 0, none⟩) n 32) (d.take n) := by
  have hl : (d.take n).length = n := by rw [List.length_take]; omega
  refine Or.inr (Or.inr ⟨g, 0, 32, by rw [hl], by omega, by omega, block_lt_of_row h, fun j hj => ?_⟩)
  rw [hl] at hj
  rw [Nat.zero_add, v8_cell h j (by omega)]
  congr 3
  rw [List.getD_eq_getElem?_getD, List.getD_eq_getElem?_getD, List.getElem?_take, if_pos hj]
end Go.Proofs.YtlcilclhaahopaaDoor
namespace Go.Proofs.YtlcilclhaahopaaDoor
open Go.RowKit

end Go.Proofs.YtlcilclhaahopaaDoor
namespace Go.Proofs.YtlcilclhaahopaaDoor
open Go.RowKit

namespace S
end S
theorem info31 : (Tryd.prog.info? 25).map (fun i => (i.zero, i.size, i.bytes)) = some (some (.agg (S.v8 (S.zeros 32))), 32, 32) := by kernel_rfl
theorem flat_len (ds : List (List UInt8)) (h : ∀ d ∈ ds, d.length = 32) : (ds.flatMap S.v8l).length = ds.length * 32 := by
  induction ds with
  | nil => rfl
  | cons d ds ih =>
    rw [List.flatMap_cons, List.length_append, S.v8l_length, h d (by simp), ih (fun x hx => h x (by simp [hx])), List.length_cons]
    omega
theorem flat_one (ds : List (List UInt8)) : ∀ v ∈ ds.flatMap S.v8l, v.oneCell' = true := fun v hv => by
  rw [List.mem_flatMap] at hv
  obtain ⟨d, _, hd⟩ := hv
  exact S.v8l_one d v hd
/-- A row of digests of one's own. -/
def DgRow (B : Nat) (w : World) (v : Value) (ds : List (List UInt8)) : Prop := w.ownsRow B 25 32 v ds.length (ds.flatMap S.v8l)
theorem DgRow.nil (B : Nat) (w : World) : DgRow B w (.slice none 0 0) [] := ⟨rfl, Or.inl ⟨rfl, rfl⟩⟩
theorem DgRow.form {B : Nat} {w : World} {v : Value} {ds : List (List UInt8)} (h : DgRow B w v ds) : ∃ ao cap, v = .slice ao ds.length cap := by
  rcases h.2 with ⟨rfl, h0⟩ | ⟨g, cap, cur, rfl, _⟩
  · exact ⟨none, 0, by rw [h0]⟩
  · exact ⟨_, _, rfl⟩
theorem DgRow.blk {B : Nat} {w : World} {v : Value} {ds : List (List UInt8)} (h : DgRow B w v ds) {k : Nat} (hk : v.ownBlock = some k) : B ≤ k ∧ k < w.heap.size ∧ ∃ cur, w.heap[k]? = some (.cells cur 25 (0, 0)) := by
  rcases h.2 with ⟨rfl, h0⟩ | ⟨g, cap, cur, rfl, hB, hr, _⟩
  · simp [Value.ownBlock] at hk
  · simp only [Value.ownBlock, Option.some.injEq] at hk
    subst hk
    exact ⟨hB, block_lt_of_row hr, cur, hr⟩
theorem DgRow.mono {B B' : Nat} {w : World} {v : Value} {ds : List (List UInt8)} (h : DgRow B w v ds) (hB : B' ≤ B) : DgRow B' w v ds := by
  refine ⟨h.1, ?_⟩
  rcases h.2 with h0 | ⟨g, cap, cur, h1, h2, h3⟩
  · exact Or.inl h0
  · exact Or.inr ⟨g, cap, cur, h1, Nat.le_trans hB h2, h3⟩
theorem DgRow.chg {p : Nat → Prop} {B : Nat} {w W : World} {v : Value} {ds : List (List UInt8)} (h : DgRow B w v ds) (hc : Chg p w W) (hp : ∀ k, v.ownBlock = some k → ¬ p k) : DgRow B W v ds := by
  refine ⟨h.1, ?_⟩
  rcases h.2 with h0 | ⟨g, cap, cur, rfl, hB, hr, h1⟩
  · exact Or.inl h0
  · exact Or.inr ⟨g, cap, cur, rfl, hB, hc.row hr (hp g rfl), h1⟩
theorem DgRow.below {B : Nat} {w W : World} {v : Value} {ds : List (List UInt8)} (h : DgRow B w v ds) (hb : Below w.heap.size w W) : DgRow B W v ds := h.chg (p := fun _ => False) (Chg.ofBelow' hb) (fun _ _ e => e)
theorem dgRow_one {W : World} {g B : Nat} {D : List UInt8} (h : W.heap[g]? = some (.cells (S.v8 D) 25 (0, 0))) (hD : D.length = 32) (hB : B ≤ g) : DgRow B W (.slice (some ⟨g, 0, none⟩) 1 1) [D] := by
  refine ⟨by simp [S.v8l_length, hD], Or.inr ⟨g, 1, S.v8 D, rfl, hB, h, by simp, by simp [maxLen], by simp [S.v8_size, hD], ?_⟩⟩
  simp [S.v8_eq, List.take_of_length_le, S.v8l_length, hD]
end Go.Proofs.YtlcilclhaahopaaDoor
