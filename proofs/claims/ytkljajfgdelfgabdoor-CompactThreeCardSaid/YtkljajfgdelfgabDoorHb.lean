/- CompactNumbers. -/
import Derived.Test.YtkljajfgdelfgabDoorGb
namespace Go.Proofs.YtkljajfgdelfgabDoor
open Go.RowKit

theorem of_lit (a : Int) (v : Value) (l : List (List UInt8)) (b e : Nat) (zb ze : Int) (hzb : zb = (b : Int)) (hze : ze = (e : Int)) (A : C.Ans) (hA : C.ofA a l b e = A) (w : World) (hb : b < 18446744073709551616) (he : e < 18446744073709551616) (hv : BsAt w v l) (hl : l.length ≤ 256) (hf : Fit l) (hK : KAt w) :
   Calls Tryd.prog 6 #[.int .i64 a, v, .int .u64 zb, .int .u64 ze] w fun r w' => Ansd w w' r A := by
  subst hzb hze hA
  exact of_any a v l b e w hb he hv hl hf hK
theorem merge_lit (a : Int) (b e b' e' : Nat) (zb ze zb' ze' : Int) (hzb : zb = (b : Int)) (hze : ze = (e : Int)) (hzb' : zb' = (b' : Int)) (hze' : ze' = (e' : Int)) (u u' : Value) (hs hs' : List (List UInt8)) (A : C.Ans) (hA : C.mergeA a b e hs b' e' hs' = A) (w : World) (hb : b < 18446744073709551616) (he : e < 18446744073709551616) (hb' : b' < 18446744073709551616) (he' : e' < 18446744073709551616) (hu : DgAt w u hs) (hu' : DgAt w u' hs') (hK : KAt w) :
   Calls Tryd.prog 7 #[.int .i64 a, .agg #[.int .u64 zb, .int .u64 ze, u], .agg #[.int .u64 zb', .int .u64 ze', u']] w fun r w' => Ansd w w' r A := by
  subst hzb hze hzb' hze' hA
  exact merge_any a b e b' e' u u' hs hs' w hb he hb' he' hu hu' hK
theorem Ansd.none {w w' : World} {r : Ending} {n : Nat} (h : Ansd w w' r ⟨0, 0, [], n⟩) : ∃ vo vc, r = .returned (.tuple #[.agg #[.int .u64 0, .int .u64 0, .slice vo 0 vc], .int .i64 (n : Int)]) ∧ DgRow w.heap.size w' (.slice vo 0 vc) [] ∧ Below w.heap.size w w' := by
  obtain ⟨⟨v, h1, h2⟩, h3⟩ := h
  obtain ⟨vo, vc, rfl⟩ := h2.form
  exact ⟨vo, vc, h1, h2, h3⟩
theorem right_same (p : Nat) (h : p ≤ 4294967296) : S.right p p 0 = true := by
  simp only [S.right, C.blocks_none p p (by omega), List.length_nil]; simp [h]
theorem C.rootA_1 (a : Int) : C.rootA a 1 1 [] = (S.zeros 32, 25) := by
  rw [C.rootA, List.length_nil, if_pos (right_same 1 (by omega)), if_neg (by omega)]
theorem C.rootA_2 (a : Int) : C.rootA a 2 1 [] = (S.zeros 32, 1) := by
  rw [C.rootA, if_neg (by simp [S.right])]
theorem C.addA_0 (a : Int) (d e : List UInt8) : C.addA a 0 0 [d] e = ⟨0, 0, [], 1⟩ := by
  rw [C.addA, if_neg (by rw [S.right, C.blocks_none 0 0 (by omega)]; simp)]; rfl
theorem C.addA_far (a : Int) (e : List UInt8) : C.addA a 4294967296 4294967296 [] e = ⟨0, 0, [], 1⟩ := by
  rw [C.addA, if_neg (fun c => c.2 rfl)]; rfl
theorem C.ofA_10 (a : Int) : C.ofA a [] 1 0 = ⟨0, 0, [], 25⟩ := by rw [C.ofA, if_pos (by simp)]; rfl
theorem C.ofA_01 (a : Int) : C.ofA a [] 0 1 = ⟨0, 0, [], 25⟩ := by rw [C.ofA, if_pos (by simp)]; rfl
theorem C.ofA_00 (a : Int) : C.ofA a [] 0 0 = ⟨0, 0, [], 0⟩ := by rw [C.ofA, if_neg (by simp), C.ofs, C.blocks_none 0 0 (by omega)]; rfl
theorem C.mergeA_12 (a : Int) : C.mergeA a 1 1 [] 2 2 [] = ⟨0, 0, [], 25⟩ := by
  rw [C.mergeA, List.length_nil, if_pos ⟨right_same 1 (by omega), right_same 2 (by omega)⟩, if_neg (by omega)]; rfl
theorem C.blocks_far : C.blocks 0 4294967296 = [4294967296] := by
  have h := C.blocks_pow 0 32 (Nat.dvd_zero _) (by omega)
  simpa using h
theorem one_zero {w : World} {v : Value} (h : DgRow w.heap.size w v [S.zeros 32]) : DgAt w v [S.zeros 32] := h.dgAt (by simp) (fun d hd => by simp only [List.mem_singleton] at hd; rw [hd]; exact S.zeros_length 32)
theorem make_one (w : World) : ∃ Y, (Instr.makeSlice 26 (.int .i64 1) (.int .i64 1)).run Tryd.prog w = .ok (.slice (some ⟨w.heap.size, 0, none⟩) 1 1) Y ∧ DgAt Y (.slice (some ⟨w.heap.size, 0, none⟩) 1 1) [S.zeros 32] ∧ Below w.heap.size w Y := by
  have hm := make_digs 1 (by omega) w
  have hr := DgRow.made w 1 (by omega)
  refine ⟨_, hm, hr.dgAt (by simp) (fun d hd => ?_), (Below.refl _ _).alloc (Nat.le_refl _) _⟩
  exact (congrArg List.length (List.eq_of_mem_replicate hd)).trans (S.zeros_length 32)
theorem wpList_makeSlice_as {w : World} {ops : Array Oper} {rest : List Oper} {o : Oper} {a : Act} {Q : Exit → Act → World → Prop} (hgd : o.guard = none) (t : TypeId) (x y : Operand) (ho : o.op = .makeSlice t x y) (vx vy : Value) (hx : a.eval x = vx) (hy : a.eval y = vy) (v : Value) (w' : World)
    (hr : (Instr.makeSlice t vx vy).run Tryd.prog w = .ok v w') (h : wpList Tryd.prog ops Q rest (a.put o.dst v) w') : wpList Tryd.prog ops Q (o :: rest) a w := by
  subst hx; subst hy
  exact wpList_plain hgd fun _ hK => by
    unfold Oper.wp execOp
    simp only [ho, Sem.run_bind, hr, Result.andThen_ok]
    exact hK _ _ h
theorem same14_lit (v u : Value) (ds : List (List UInt8)) (w : World) (hv : DgAt w v ds) (hu : DgAt w u ds) :
   Calls Tryd.prog 8 #[.agg #[.int .u64 0, .int .u64 0, v], .agg #[.int .u64 0, .int .u64 0, u]] w fun r w' => r = .returned (.bool true) ∧ Below w.heap.size w w' := same14_any 0 0 v u ds w hv hu
end Go.Proofs.YtkljajfgdelfgabDoor
