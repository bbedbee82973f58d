/- KeysAlike. -/
import Derived.Test.YtllcnppcncegpaaDoorKs
import Derived.Test.YtllcnppcncegpaaDoorArgu
namespace Go.Proofs.YtllcnppcncegpaaDoor
open Go.RowKit

theorem Ring.of {w : World} {o : Rn} {ks : List UInt8} {T : List (List (List UInt8))} {gr : Nat} (h : RgIs w o ks T) (hg : o.gr = gr) : Ring 0 w gr ks T := ⟨o, h, hg, fun _ _ => Nat.zero_le _⟩
theorem turn_o (o : Rn) (ks : List UInt8) (T : List (List (List UInt8))) (t : Int) (draw gr : Nat) (w : World) (hg : o.gr = gr) (ho : RgIs w o ks T) (hd : draw < 4294967296) (hK : KAt w) :
   Calls Tryd.prog 9 #[.pointer (some ⟨gr, 0, none⟩), .int .i64 t, .int .u32 (draw : Int)] w fun e w' => ∃ o', e = .returned (.tuple #[.int .i64 (S.turnN T t), .int .i64 (S.turnE T t)]) ∧ RgIs w' o' ks (S.turnT ks T t draw) ∧ RgTo o w o' w' := by
  subst hg
  exact turn_any o ks T t draw w ho hd hK
/-- Another ring turns: this one stays. -/
theorem RgIs.other {w w' : World} {o o2 o2' : Rn} {ks ks2 : List UInt8} {T T2 : List (List (List UInt8))} (h : RgIs w o ks T) (h2 : RgIs w o2 ks2 T2) (ht : RgTo o2 w o2' w') (hd : ∀ k, o.foot k → ¬ o2.foot k) : RgIs w' o ks T ∧ ∀ k, o.foot k → ¬ o2'.foot k := by
  refine ⟨h.chg ht.chg hd (fun k hk => ?_), fun k hk hk2 => ?_⟩
  · rcases h.seed.2 with ⟨e, _⟩ | ⟨g, cap, cur, e, _, hgr, _⟩
    · rw [e] at hk; cases hk
    · rw [e] at hk
      simp only [Value.ownBlock, Option.some.injEq] at hk
      rw [hk] at hgr
      exact h2.apart hgr (by decide) (by decide)
  · rcases ht.own k hk2 with e | e
    · exact hd k hk e
    · have := h.foot_lt hk; omega
theorem RgIs.keeps {w w' : World} {o o' : Rn} {ks : List UInt8} {T : List (List (List UInt8))} (h : RgIs w o ks T) (ht : RgTo o w o' w') : Keeps w w' := fun _ _ _ _ t1 t2 hg => ht.chg.row hg (h.apart hg t1 t2)
/-- []byte of a constant text: its row is marked. -/
theorem conv_mark {W : World} {g n c : Nat} {C : Array Value} (h : W.heap[g]? = some (.cells C 5 (0, 0))) :
    ∃ W', (convert 41 41 (.slice (some ⟨g, 0, none⟩) n c)).run Tryd.prog W = .ok (.slice (some ⟨g, 0, none⟩) n c) W' ∧ W'.heap[g]? = some (.cells C 5 (C.size, C.size + 1)) ∧ Chg (fun k => k = g) W W' := by
  have hsh : W.shape? g = some (5, C.size) := by unfold World.shape?; rw [h]
  refine ⟨W.freeze ⟨g, C.size, none⟩ 1, ?_, ?_, ?_⟩
  · simp [convert, run_underlying Tryd.underlying41, run_underlying Tryd.underlying5, markStringish, hsh]
  · unfold World.freeze
    rw [if_neg (by decide)]
    show (W.heap.modify g _)[g]? = _
    rw [Array.getElem?_modify, if_pos rfl, h]
    rfl
  · unfold World.freeze
    rw [if_neg (by decide)]
    refine ⟨rfl, rfl, rfl, by show W.heap.size ≤ (W.heap.modify g _).size; simp, fun k _ hk => ?_⟩
    show (W.heap.modify g _)[k]? = _
    rw [Array.getElem?_modify, if_neg (fun e => hk e.symm)]
theorem step_bs_when {md : Region.Mode} {ops : Array Oper} {Q : Exit → Act → World → Prop} {S : World → Prop} {fuel : Nat} {listed : Array Bool} {a : Act} {w : World} {i : Nat} {o : Oper} {rs : List Nat} (ho : ops[i]? = some o) (hw : Region.wanted o (yielded ops a.tmps) = true) (t : TypeId) (n : Nat) (parts : List (Nat × Operand))
    (hop : o.op = .buildSlice t n parts.toArray) (vs : List (Nat × Value)) (hvs : (parts.map fun p => (p.1, a.eval p.2)) = vs) (v' : Value) (w' : World) (hr : (Instr.buildSlice t n vs.toArray).run Tryd.prog w = .ok v' w') (hrest : AllReadyH Tryd.prog md ops Q S fuel listed a w rs)
    (h : S w' ∧ (S w' → wpAnyH Tryd.prog md ops Q S fuel (listed.setIfInBounds i true) (a.put o.dst v') w')) : AllReadyH Tryd.prog md ops Q S fuel listed a w (i :: rs) := by
  subst hvs
  refine AllReadyH.cons ho (fun K hK => ?_) hrest
  rw [if_pos hw]
  unfold Oper.wp execOp
  simp only [hop, Sem.run_bind, List.map_toArray, hr, Result.andThen_ok]
  exact hK.out _ _ h.1 h.2
theorem step_cv_when {md : Region.Mode} {ops : Array Oper} {Q : Exit → Act → World → Prop} {S : World → Prop} {fuel : Nat} {listed : Array Bool} {a : Act} {w : World} {i : Nat} {o : Oper} {rs : List Nat} (ho : ops[i]? = some o) (hw : Region.wanted o (yielded ops a.tmps) = true) (t1 t2 : TypeId) (x : Operand)
    (hop : o.op = .convert t1 t2 x) (vx : Value) (hx : a.eval x = vx) (v' : Value) (w' : World) (hr : (convert t1 t2 vx).run Tryd.prog w = .ok v' w') (hrest : AllReadyH Tryd.prog md ops Q S fuel listed a w rs)
    (h : S w' ∧ (S w' → wpAnyH Tryd.prog md ops Q S fuel (listed.setIfInBounds i true) (a.put o.dst v') w')) : AllReadyH Tryd.prog md ops Q S fuel listed a w (i :: rs) := by
  subst hx
  refine AllReadyH.cons ho (fun K hK => ?_) hrest
  rw [if_pos hw]
  unfold Oper.wp execOp
  simp only [hop, Sem.run_bind, hr, Result.andThen_ok]
  exact hK.out _ _ h.1 h.2
theorem step_ap_when {md : Region.Mode} {ops : Array Oper} {Q : Exit → Act → World → Prop} {S : World → Prop} {fuel : Nat} {listed : Array Bool} {a : Act} {w : World} {i : Nat} {o : Oper} {rs : List Nat} (ho : ops[i]? = some o) (hw : Region.wanted o (yielded ops a.tmps) = true) (s x : Operand) (t tn : TypeId)
    (hop : o.op = .call { callee := .builtin .append, args := #[s, x], argTypes := #[t, tn] }) (vs vx : Value) (hs : a.eval s = vs) (hx : a.eval x = vx) (v' : Value) (w' : World) (hr : (Builtin.append_ #[t, tn] o.type #[vs, vx]).run Tryd.prog w = .ok v' w') (hrest : AllReadyH Tryd.prog md ops Q S fuel listed a w rs)
    (h : S w' ∧ (S w' → wpAnyH Tryd.prog md ops Q S fuel (listed.setIfInBounds i true) (a.put o.dst v') w')) : AllReadyH Tryd.prog md ops Q S fuel listed a w (i :: rs) := by
  refine AllReadyH.cons ho (fun K hK => ?_) hrest
  rw [if_pos hw]
  exact Lib.wp_append_run w s x t tn hop vs vx hs hx v' w' hr (hK.out _ _ h.1 h.2)
theorem bs_z (W : World) : (Instr.buildSlice 41 1 #[(0, .int .u8 122)]).run Tryd.prog W = .ok (.slice (some ⟨W.heap.size, 0, none⟩) 1 1) (W.alloc (.cells #[.int .u8 122] 5)) := by
  go_simp
theorem mark_one {W : World} {g : Nat} {p : Nat × Nat} (h : W.heap[g]? = some (.cells #[.int .u8 122] 5 p)) : SliceAt W (.slice (some ⟨g, 0, none⟩) 1 1) [122] :=
  Or.inr (Or.inr ⟨g, 0, 1, rfl, Nat.le_refl _, by simp, block_lt_of_row h, fun j hj => by
    obtain rfl : j = 0 := by simp at hj; exact hj
    rw [cell_of_row W g (0 + 0) _ _ _ h]; rfl⟩)
theorem tree_h {w : World} {g : Nat} {h : S.Hd} (t : Int) (hr : w.heap[g]? = some (.cells (encH h).toArray 32 (0, 0))) : (w.setCell ⟨g, 0, none⟩ (.int .i64 t)).heap[g]? = some (.cells (encH ⟨t, h.epoch, h.size, h.clock, h.root⟩).toArray 32 (0, 0)) := by
  rw [heap_setCell_same _ _ _ _ _ _ hr]
  congr 2
theorem S.keyAt_turn {ks : List UInt8} {T : List (List (List UInt8))} {t : Int} {d : Nat} (h : S.turnE T t = 0) (hn : T.length = 16) : S.keyAt (S.turnT ks T t d) t (S.eps T t) = S.key ks t (S.eps T t : Int) d := by
  have e : ∀ (l : List (List UInt8)) (x : List UInt8), (l ++ [x]).getD l.length [] = x := fun l x => by simp [List.getD_eq_getElem?_getD]
  rw [S.keyAt, S.turnT_at h hn t (S.turnE_0 h).1, if_pos rfl]
  exact e _ _
/-- A ring of another seed, turned as often: what it takes of a signed head. -/
theorem S.rholds_last {ks : List UInt8} {T : List (List (List UInt8))} {t : Int} {d : Nat} (x : S.Sg) (h : S.turnE T t = 0) (hn : T.length = 16) (ht : x.h.tree = t) (he : x.h.epoch = (S.eps T t : Int)) : S.rholds (S.turnT ks T t d) x = (S.mac (S.key ks t (S.eps T t : Int) d) (S.hb x.h) == x.tag) := by
  have h1 := (S.turnE_0 h).1
  rw [S.rholds, ht, h1, he, S.turnT_eps h hn, show ((S.eps T t : Nat) : Int).toNat = S.eps T t by omega, S.keyAt_turn h hn, show decide (0 ≤ ((S.eps T t : Nat) : Int)) = true by simp, show decide (((S.eps T t : Nat) : Int) < ((S.eps T t + 1 : Nat) : Int)) = true by simp; omega]
  simp
end Go.Proofs.YtllcnppcncegpaaDoor
