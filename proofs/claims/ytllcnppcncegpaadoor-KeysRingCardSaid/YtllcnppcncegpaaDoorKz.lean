/- KeysRing: the round's state. -/
import Derived.Test.YtllcnppcncegpaaDoorKx
namespace Go.Proofs.YtllcnppcncegpaaDoor
open Go.RowKit

theorem Ring.mono {B B' gr : Nat} {w : World} {ks : List UInt8} {T : List (List (List UInt8))} (h : Ring B w gr ks T) (hB : B' ≤ B) : Ring B' w gr ks T := by
  obtain ⟨o, h1, h2, h3⟩ := h
  exact ⟨o, h1, h2, fun k hk => Nat.le_trans hB (h3 k hk)⟩
/-- A ring stays where no block of its types changes. -/
theorem RgIs.chgT {p : Nat → Prop} {w W : World} {o : Rn} {ks : List UInt8} {T : List (List (List UInt8))} (h : RgIs w o ks T) (hc : Chg p w W) (hp : ∀ g c t q, w.heap[g]? = some (.cells c t q) → t = 72 ∨ t = 30 ∨ t = 5 → ¬ p g) : RgIs W o ks T := by
  refine h.chg hc (fun k hk => ?_) (fun k hk => ?_)
  · rcases hk with rfl | ⟨i, hi, hk⟩
    · exact hp _ _ _ _ h.row (Or.inl rfl)
    · obtain ⟨_, _, cur, hcur⟩ := (h.rows i hi).blk hk
      exact hp _ _ _ _ hcur (Or.inr (Or.inl rfl))
  · rcases h.seed.2 with ⟨e, _⟩ | ⟨g, cap, cur, e, _, hgr, _⟩
    · rw [e] at hk; cases hk
    · rw [e] at hk
      simp only [Value.ownBlock, Option.some.injEq] at hk
      rw [hk] at hgr
      exact hp _ _ _ _ hgr (Or.inr (Or.inr rfl))
theorem Ring.chgT {p : Nat → Prop} {B gr : Nat} {w W : World} {ks : List UInt8} {T : List (List (List UInt8))} (h : Ring B w gr ks T) (hc : Chg p w W) (hp : ∀ g c t q, w.heap[g]? = some (.cells c t q) → t = 72 ∨ t = 30 ∨ t = 5 → ¬ p g) : Ring B W gr ks T := by
  obtain ⟨o, h1, h2, h3⟩ := h
  exact ⟨o, h1.chgT hc hp, h2, h3⟩
theorem DwIs.apart {w : World} {gd : Nat} {vs : List Value} {D : List (List Nat)} (h : DwIs w gd vs D) {g : Nat} {c : Array Value} {t : TypeId} {p : Nat × Nat} (hg : w.heap[g]? = some (.cells c t p)) (h1 : t ≠ 57) (h2 : t ≠ 27) : ¬ dfoot gd vs g := fun e => by
  rcases e with rfl | ⟨i, hi, e⟩
  · rw [h.row] at hg
    simp only [Option.some.injEq, Obj.cells.injEq] at hg
    exact h1 hg.2.1.symm
  · obtain ⟨_, _, cur, hc⟩ := Rw.blk (h.rows i hi) e
    rw [hc] at hg
    simp only [Option.some.injEq, Obj.cells.injEq] at hg
    exact h2 hg.2.1.symm
abbrev GRow := Rw 34 68 encG
/-- What there is behind some calls: a ring, the document's table, the draws, what was signed. -/
structure Kst (w wr : World) (gr gT gd : Nat) (ks : List UInt8) (T : List (List (List UInt8))) (vs : List Value) (D : List (List Nat)) (sv : Value) (L : List S.Sg) : Prop where
  ring : Ring w.heap.size wr gr ks T
  tab : wr.heap[gT]? = some (.cells (S.v32 (S.K ++ S.H0)) 77 (0, 0))
  dw : DwIs wr gd vs D
  df : ∀ k, dfoot gd vs k → w.heap.size ≤ k
  sg : GRow w.heap.size wr sv L
  sok : ∀ x ∈ L, S.SgOk T x ∧ x.h.Ok ∧ x.tag.length = 32
  bw : Below w.heap.size w wr
theorem Kst.below {w wr W : World} {gr gT gd : Nat} {ks : List UInt8} {T : List (List (List UInt8))} {vs : List Value} {D : List (List Nat)} {sv : Value} {L : List S.Sg} (h : Kst w wr gr gT gd ks T vs D sv L) (hb : Below wr.heap.size wr W) : Kst w W gr gT gd ks T vs D sv L :=
  ⟨h.ring.below hb, (hb.block _ (block_lt_of_row h.tab)).trans h.tab, h.dw.chg (p := fun _ => False) (Chg.ofBelow' hb) (fun _ _ e => e), h.df, Rw.below h.sg hb, h.sok, h.bw.trans (hb.mono h.bw.size)⟩
theorem Kst.turned {w wr W : World} {gr gT gd : Nat} {ks : List UInt8} {T : List (List (List UInt8))} {vs : List Value} {D : List (List Nat)} {sv : Value} {L : List S.Sg} (h : Kst w wr gr gT gd ks T vs D sv L) (t : Int) (d : Nat) (hr : Ring w.heap.size W gr ks (S.turnT ks T t d)) (hb : Below w.heap.size wr W) (hk : Keeps wr W) : Kst w W gr gT gd ks (S.turnT ks T t d) vs D sv L := by
  refine ⟨hr, hk _ _ _ _ (by decide) (by decide) h.tab, h.dw.keeps hk, h.df, ⟨h.sg.1, ?_⟩, fun x hx => ⟨(h.sok x hx).1.turn t d h.ring.tn, (h.sok x hx).2⟩, h.bw.trans hb⟩
  rcases h.sg.2 with h2 | ⟨g, cap, cur, h2, h3, h4, h5⟩
  · exact Or.inl h2
  · exact Or.inr ⟨g, cap, cur, h2, h3, hk _ _ _ _ (by decide) (by decide) h4, h5⟩
theorem Kst.drawn {w wr W : World} {gr gT gd : Nat} {ks : List UInt8} {T : List (List (List UInt8))} {vs vs' : List Value} {D D' : List (List Nat)} {sv : Value} {L : List S.Sg} (h : Kst w wr gr gT gd ks T vs D sv L) (hd : DwIs W gd vs' D') (hc : Chg (dfoot gd vs) wr W) (hf : ∀ k, dfoot gd vs' k → w.heap.size ≤ k) : Kst w W gr gT gd ks T vs' D' sv L := by
  have hp : ∀ g c t q, wr.heap[g]? = some (.cells c t q) → t = 72 ∨ t = 30 ∨ t = 5 → ¬ dfoot gd vs g := fun g c t q hg ht => by
    rcases ht with rfl | rfl | rfl
    · exact h.dw.apart hg (by decide) (by decide)
    · exact h.dw.apart hg (by decide) (by decide)
    · exact h.dw.apart hg (by decide) (by decide)
  refine ⟨h.ring.chgT hc hp, hc.row h.tab (h.dw.apart h.tab (by decide) (by decide)), hd, hf, Rw.chg h.sg hc (fun k hk => ?_), h.sok, h.bw.trans (hc.below w.heap.size h.bw.size (fun k hk e => by have := h.df k e; omega))⟩
  obtain ⟨_, _, cur, hcur⟩ := Rw.blk h.sg hk
  exact h.dw.apart hcur (by decide) (by decide)
theorem Kst.signed {w wr W : World} {gr gT gd : Nat} {ks : List UInt8} {T : List (List (List UInt8))} {vs : List Value} {D : List (List Nat)} {sv sv' : Value} {L : List S.Sg} (h : Kst w wr gr gT gd ks T vs D sv L) (x : S.Sg) (hx : S.SgOk T x ∧ x.h.Ok ∧ x.tag.length = 32) (hr : GRow w.heap.size W sv' (L ++ [x])) (hc : Chg (fun k => sv.ownBlock = some k) wr W) : Kst w W gr gT gd ks T vs D sv' (L ++ [x]) := by
  have ha : ∀ g c t q, wr.heap[g]? = some (.cells c t q) → t ≠ 34 → ¬ sv.ownBlock = some g := fun g c t q hg ht => Rw.apart h.sg hg ht
  refine ⟨h.ring.chgT hc (fun g c t q hg ht => ha g c t q hg (by rcases ht with rfl | rfl | rfl <;> decide)), hc.row h.tab (ha _ _ _ _ h.tab (by decide)), h.dw.chg hc (fun k hk => ?_), h.df, hr, fun y hy => ?_, h.bw.trans (hc.below w.heap.size h.bw.size (fun k hk e => by have := (Rw.blk h.sg e).1; omega))⟩
  · rcases hk with rfl | ⟨i, hi, hk⟩
    · exact ha _ _ _ _ h.dw.row (by decide)
    · obtain ⟨_, _, cur, hcur⟩ := Rw.blk (h.dw.rows i hi) hk
      exact ha _ _ _ _ hcur (by decide)
  · rcases List.mem_append.1 hy with hy | hy
    · exact h.sok y hy
    · rw [List.mem_singleton.1 hy]; exact hx
def S.a0 : S.Ak := ⟨0, 0, 0, 0, S.h0⟩
theorem encA_one (x : S.Ak) : ∀ u ∈ encA x, u.oneCell' = true := fun u hu => by
  rcases List.mem_cons.1 hu with rfl | hu
  · rfl
  rcases List.mem_cons.1 hu with rfl | hu
  · rfl
  rcases List.mem_cons.1 hu with rfl | hu
  · rfl
  rcases List.mem_cons.1 hu with rfl | hu
  · rfl
  · exact encH_one _ u hu
theorem info60 : (Tryd.prog.info? 60).map (fun i => (i.zero, i.size, i.bytes)) = some (some (.agg (encA S.a0).toArray), 40, 96) := by kernel_rfl
theorem size_a (x : S.Ak) (hr : x.h.root.length = 32) : (Tryd.prog.info? 60).map (·.size) = some (encA x).toArray.size := by
  obtain ⟨i, hi, _, hs, _⟩ := info_parts info60
  rw [hi, List.size_toArray, encA_length x hr]
  simp [hs]
theorem lay_a (w : World) (x : S.Ak) (hr : x.h.root.length = 32) : ∃ A Y, (Instr.alloc 60 true (.tuple #[])).run Tryd.prog w = .ok (.pointer (some ⟨w.heap.size, 0, none⟩)) A ∧ (Instr.storeAt 60 (.pointer (some ⟨w.heap.size, 0, none⟩)) (.agg (encA x).toArray)).run Tryd.prog A = .ok () Y ∧ Y.heap[w.heap.size]? = some (.cells (encA x).toArray 60 (0, 0)) ∧ Below w.heap.size w Y := by
  have ha : (Instr.alloc 60 true (.tuple #[])).run Tryd.prog w = .ok (.pointer (some ⟨w.heap.size, 0, none⟩)) (w.alloc (.cells (encA S.a0).toArray 60)) := by
    obtain ⟨i, hi, hz, _, _⟩ := info_parts info60
    simp [Instr.alloc, zeroValue, typeInfo, hi, hz, newVar, newRow, Value.cells]
  have hz : (encA S.a0).toArray.size = (encA x).toArray.size := by rw [List.size_toArray, List.size_toArray, encA_length x hr, encA_length S.a0 (S.zeros_length 32)]
  have hr2 := run_storeVar_row (P := Tryd.prog) (w.alloc (.cells (encA S.a0).toArray 60)) w.heap.size 60 60 _ (encA x).toArray (heap_alloc_new _ _) (size_a x hr) hz (all_oneCell_toArray (encA_one x))
  refine ⟨_, (w.alloc (.cells (encA S.a0).toArray 60)).setRow w.heap.size (encA x).toArray, ha, ?_, setRow_heap _ _ _ _ _ _ (heap_alloc_new _ _), ?_⟩
  · simp only [Instr.storeAt, Instr.sureAddr, Sem.run_bind, Sem.run_pure, Result.andThen_ok, hr2]
  · exact below_setRow ((Below.refl _ _).alloc (Nat.le_refl _) _) (Nat.le_refl _) _
theorem a_cells {w : World} {g : Nat} {x : S.Ak} (h : w.heap[g]? = some (.cells (encA x).toArray 60 (0, 0))) :
    w.cell? ⟨g, 0, none⟩ = some (.int .i64 x.kind) ∧ w.cell? ⟨g, 1, none⟩ = some (.int .i64 x.tree) ∧ w.cell? ⟨g, 2, none⟩ = some (.int .i64 x.turn) ∧ w.cell? ⟨g, 3, none⟩ = some (.int .u32 (x.draw : Int)) := by
  refine ⟨?_, ?_, ?_, ?_⟩ <;> (rw [cell_of_row w g _ _ _ _ h]; simp [encA])
theorem load_ah {w : World} {g : Nat} {x : S.Ak} (h : w.heap[g]? = some (.cells (encA x).toArray 60 (0, 0))) (hr : x.h.root.length = 32) : (Instr.loadAt 32 (.pointer (some ⟨g, 4, none⟩))).run Tryd.prog w = .ok (.agg (encH x.h).toArray) w :=
  run_loadAt_mid w g 4 32 (encH x.h) _ (fun j v hv => by
    rw [cell_of_row w g _ _ _ _ h, show 4 + j = j + 4 by omega]
    simpa [encA] using hv) Tryd.underlying32 rfl (by rw [size_h _ hr, List.size_toArray])
theorem alloc32 (w : World) : (Instr.alloc 32 true (.tuple #[])).run Tryd.prog w = .ok (.pointer (some ⟨w.heap.size, 0, none⟩)) (w.alloc (.cells (encH S.h0).toArray 32)) := by
  obtain ⟨i, hi, hz, _, _⟩ := info_parts info32
  simp [Instr.alloc, zeroValue, typeInfo, hi, hz, newVar, newRow, Value.cells]
theorem lay_h (w : World) (x : S.Hd) (hr : x.root.length = 32) : ∃ A Y, (Instr.alloc 32 true (.tuple #[])).run Tryd.prog w = .ok (.pointer (some ⟨w.heap.size, 0, none⟩)) A ∧ (Instr.storeAt 32 (.pointer (some ⟨w.heap.size, 0, none⟩)) (.agg (encH x).toArray)).run Tryd.prog A = .ok () Y ∧ Y.heap[w.heap.size]? = some (.cells (encH x).toArray 32 (0, 0)) ∧ Below w.heap.size w Y := by
  have hz : (encH S.h0).toArray.size = (encH x).toArray.size := by rw [List.size_toArray, List.size_toArray, encH_length x hr, encH_length S.h0 (S.zeros_length 32)]
  have hr2 := run_storeVar_row (P := Tryd.prog) (w.alloc (.cells (encH S.h0).toArray 32)) w.heap.size 32 32 _ (encH x).toArray (heap_alloc_new _ _) (size_h x hr) hz (all_oneCell_toArray (encH_one x))
  refine ⟨_, (w.alloc (.cells (encH S.h0).toArray 32)).setRow w.heap.size (encH x).toArray, alloc32 w, ?_, setRow_heap _ _ _ _ _ _ (heap_alloc_new _ _), ?_⟩
  · simp only [Instr.storeAt, Instr.sureAddr, Sem.run_bind, Sem.run_pure, Result.andThen_ok, hr2]
  · exact below_setRow ((Below.refl _ _).alloc (Nat.le_refl _) _) (Nat.le_refl _) _
theorem alloc57 (w : World) : (Instr.alloc 57 true (.tuple #[])).run Tryd.prog w = .ok (.pointer (some ⟨w.heap.size, 0, none⟩)) (w.alloc (.cells (List.replicate 16 (Value.slice none 0 0)).toArray 57)) := by
  have info : (Tryd.prog.info? 57).map (fun i => (i.zero, i.size, i.bytes)) = some (some (.agg (List.replicate 16 (Value.slice none 0 0)).toArray), 16, 384) := by kernel_rfl
  obtain ⟨i, hi, hz, _, _⟩ := info_parts info
  simp [Instr.alloc, zeroValue, typeInfo, hi, hz, newVar, newRow, Value.cells]
theorem dw_start {w : World} {gd : Nat} (h : w.heap[gd]? = some (.cells (List.replicate 16 (Value.slice none 0 0)).toArray 57 (0, 0))) : DwIs w gd (List.replicate 16 (.slice none 0 0)) (List.replicate 16 []) ∧ ∀ k, dfoot gd (List.replicate 16 (.slice none 0 0)) k → k = gd := by
  have hg : ∀ i, i < 16 → ((List.replicate 16 (Value.slice none 0 0)).getD i undef) = .slice none 0 0 := fun i hi => by rw [List.getD_eq_getElem?_getD, List.getElem?_replicate, if_pos hi]; rfl
  have hT : ∀ i, ((List.replicate 16 ([] : List Nat)).getD i []) = [] := fun i => by
    by_cases hi : i < 16
    · rw [List.getD_eq_getElem?_getD, List.getElem?_replicate, if_pos hi]; rfl
    · rw [List.getD_eq_getElem?_getD, List.getElem?_eq_none (by simp; omega)]; rfl
  refine ⟨⟨h, by simp, by simp, fun i hi => ?_, fun i => ?_, fun i d hd => ?_, fun i j k hi hj h1 h2 => ?_⟩, fun k hk => ?_⟩
  · rw [hg i hi, hT i]; exact Rw.nil _ _ _ _ _
  · rw [hT i]; simp
  · rw [hT i] at hd; cases hd
  · rw [hg i hi] at h1; cases h1
  · rcases hk with hk | ⟨i, hi, hk⟩
    · exact hk
    · rw [hg i hi] at hk; cases hk
theorem kdG : Kd Tryd.prog 58 34 68 96 encG := by
  obtain ⟨i, hi, h1, h2, h3⟩ := info_parts info34
  exact ⟨Tryd.underlying58, ⟨i, _, hi, h1, h2, h3, by rw [Value.cells, List.size_toArray, encG_length _ (S.zeros_length 32) (S.zeros_length 32)]⟩, by omega, by omega, encG_one⟩
theorem bs58one (W : World) (x : S.Sg) (hr : x.h.root.length = 32) (ht : x.tag.length = 32) : (Instr.buildSlice 58 1 #[(0, .agg (encG x).toArray)]).run Tryd.prog W = .ok (.slice (some ⟨W.heap.size, 0, none⟩) 1 1) (W.alloc (.cells (encG x).toArray 34)) := by
  obtain ⟨i, hi, hz, hs, _⟩ := info_parts info34
  refine run_buildSlice W 58 34 1 _ _ i _ Tryd.underlying58 hi hz (by rw [hs]; omega) (by rw [hs]; omega) ?_
  have h := Great.fill_whole (s := 68) (by omega) [.agg (encG x).toArray] ((Array.range (1 * i.size)).map ((Value.agg (encG S.g0).toArray).cells[· % (Value.agg (encG S.g0).toArray).cells.size]!)) (fun v hv => by
    simp only [List.mem_singleton] at hv
    subst hv
    show (encG x).toArray.size = 68
    rw [List.size_toArray, encG_length x hr ht]) (by simp [hs])
  rw [hs] at h ⊢
  refine h.trans ?_
  simp [Value.cells]
end Go.Proofs.YtllcnppcncegpaaDoor
