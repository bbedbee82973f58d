/- CompactNumbers. -/
import Derived.Test.YtkljajfgdelfgaaDoorGb
namespace Go.Proofs.YtkljajfgdelfgaaDoor
open Go.RowKit

theorem of_lit (a : Int) (v : Value) (l : List (List UInt8)) (b e : Nat) (zb ze : Int) (hzb : zb = (b : Int)) (hze : ze = (e : Int)) (A : C.Ans) (hA : C.ofA a l b e = A) (w : World) (hb : b < 18446744073709551616) (he : e < 18446744073709551616) (hv : BsAt w v l) (hl : l.length ≤ 256) (hf : Fit l) (hK : KAt w) :
   Calls Tryd.prog 12 #[.int .i64 a, v, .int .u64 zb, .int .u64 ze] w fun r w' => Ansd w w' r A := by
  subst hzb hze hA
  exact of_any a v l b e w hb he hv hl hf hK
theorem add_lit (a : Int) (b e : Nat) (zb ze : Int) (hzb : zb = (b : Int)) (hze : ze = (e : Int)) (u : Value) (hs : List (List UInt8)) (d : List UInt8) (A : C.Ans) (hA : C.addA a b e hs d = A) (w : World) (hb : b < 18446744073709551616) (he : e < 18446744073709551616) (hd : d.length = 32) (hu : DgAt w u hs) (hK : KAt w) :
   Calls Tryd.prog 11 #[.int .i64 a, .agg #[.int .u64 zb, .int .u64 ze, u], .agg (S.v8 d)] w fun r w' => Ansd w w' r A := by
  subst hzb hze hA
  exact add_any a b e u hs d w hb he hd hu hK
theorem merge_lit (a : Int) (b e b' e' : Nat) (zb ze zb' ze' : Int) (hzb : zb = (b : Int)) (hze : ze = (e : Int)) (hzb' : zb' = (b' : Int)) (hze' : ze' = (e' : Int)) (u u' : Value) (hs hs' : List (List UInt8)) (A : C.Ans) (hA : C.mergeA a b e hs b' e' hs' = A) (w : World) (hb : b < 18446744073709551616) (he : e < 18446744073709551616) (hb' : b' < 18446744073709551616) (he' : e' < 18446744073709551616) (hu : DgAt w u hs) (hu' : DgAt w u' hs') (hK : KAt w) :
   Calls Tryd.prog 13 #[.int .i64 a, .agg #[.int .u64 zb, .int .u64 ze, u], .agg #[.int .u64 zb', .int .u64 ze', u']] w fun r w' => Ansd w w' r A := by
  subst hzb hze hzb' hze' hA
  exact merge_any a b e b' e' u u' hs hs' w hb he hb' he' hu hu' hK
theorem Ansd.none {w w' : World} {r : Ending} {n : Nat} (h : Ansd w w' r ⟨0, 0, [], n⟩) : ∃ vo vc, r = .returned (.tuple #[.agg #[.int .u64 0, .int .u64 0, .slice vo 0 vc], .int .i64 (n : Int)]) ∧ DgRow w.heap.size w' (.slice vo 0 vc) [] ∧ Below w.heap.size w w' := by
  obtain ⟨⟨v, h1, h2⟩, h3⟩ := h
  obtain ⟨vo, vc, rfl⟩ := h2.form
  exact ⟨vo, vc, h1, h2, h3⟩
theorem right_same (p : Nat) (h : p ≤ 4294967296) : S.right p p 0 = true := by
  simp only [S.right, C.blocks_none p p (by omega), List.length_nil]; simp [h]
theorem C.rootA_1 (a : Int) : C.rootA a 1 1 [] = (S.zeros 32, 25) := by
  rw [C.rootA, List.length_nil, if_pos (right_same 1 (by omega)), if_neg (by omega)]
theorem C.rootA_2 (a : Int) : C.rootA a 2 1 [] = (S.zeros 32, 1) := by
  rw [C.rootA, if_neg (by simp [S.right])]
theorem C.addA_0 (a : Int) (d e : List UInt8) : C.addA a 0 0 [d] e = ⟨0, 0, [], 1⟩ := by
  rw [C.addA, if_neg (by rw [S.right, C.blocks_none 0 0 (by omega)]; simp)]; rfl
theorem C.addA_far (a : Int) (e : List UInt8) : C.addA a 4294967296 4294967296 [] e = ⟨0, 0, [], 1⟩ := by
  rw [C.addA, if_neg (fun c => c.2 rfl)]; rfl
theorem C.ofA_10 (a : Int) : C.ofA a [] 1 0 = ⟨0, 0, [], 25⟩ := by rw [C.ofA, if_pos (by simp)]; rfl
theorem C.ofA_01 (a : Int) : C.ofA a [] 0 1 = ⟨0, 0, [], 25⟩ := by rw [C.ofA, if_pos (by simp)]; rfl
theorem C.ofA_00 (a : Int) : C.ofA a [] 0 0 = ⟨0, 0, [], 0⟩ := by rw [C.ofA, if_neg (by simp), C.ofs, C.blocks_none 0 0 (by omega)]; rfl
theorem C.mergeA_12 (a : Int) : C.mergeA a 1 1 [] 2 2 [] = ⟨0, 0, [], 25⟩ := by
  rw [C.mergeA, List.length_nil, if_pos ⟨right_same 1 (by omega), right_same 2 (by omega)⟩, if_neg (by omega)]; rfl
theorem C.blocks_far : C.blocks 0 4294967296 = [4294967296] := by
  have h := C.blocks_pow 0 32 (Nat.dvd_zero _) (by omega)
  simpa using h
theorem one_zero {w : World} {v : Value} (h : DgRow w.heap.size w v [S.zeros 32]) : DgAt w v [S.zeros 32] := h.dgAt (by simp) (fun d hd => by simp only [List.mem_singleton] at hd; rw [hd]; exact S.zeros_length 32)
theorem make_one (w : World) : ∃ Y, (Instr.makeSlice 28 (.int .i64 1) (.int .i64 1)).run Tryd.prog w = .ok (.slice (some ⟨w.heap.size, 0, none⟩) 1 1) Y ∧ DgAt Y (.slice (some ⟨w.heap.size, 0, none⟩) 1 1) [S.zeros 32] ∧ Below w.heap.size w Y := by
  have hm := make_digs 1 (by omega) w
  have hr := DgRow.made w 1 (by omega)
  refine ⟨_, hm, hr.dgAt (by simp) (fun d hd => ?_), (Below.refl _ _).alloc (Nat.le_refl _) _⟩
  exact (congrArg List.length (List.eq_of_mem_replicate hd)).trans (S.zeros_length 32)
theorem wpList_makeSlice_as {w : World} {ops : Array Oper} {rest : List Oper} {o : Oper} {a : Act} {Q : Exit → Act → World → Prop} (hgd : o.guard = none) (t : TypeId) (x y : Operand) (ho : o.op = .makeSlice t x y) (vx vy : Value) (hx : a.eval x = vx) (hy : a.eval y = vy) (v : Value) (w' : World)
    (hr : (Instr.makeSlice t vx vy).run Tryd.prog w = .ok v w') (h : wpList Tryd.prog ops Q rest (a.put o.dst v) w') : wpList Tryd.prog ops Q (o :: rest) a w := by
  subst hx; subst hy
  exact wpList_plain hgd fun _ hK => by
    unfold Oper.wp execOp
    simp only [ho, Sem.run_bind, hr, Result.andThen_ok]
    exact hK _ _ h
theorem same14_lit (v u : Value) (ds : List (List UInt8)) (w : World) (hv : DgAt w v ds) (hu : DgAt w u ds) :
   Calls Tryd.prog 14 #[.agg #[.int .u64 0, .int .u64 0, v], .agg #[.int .u64 0, .int .u64 0, u]] w fun r w' => r = .returned (.bool true) ∧ Below w.heap.size w w' := same14_any 0 0 v u ds w hv hu
set_option maxHeartbeats 40000000 in
set_option maxRecDepth 10000 in
theorem compactNumbers_walk (w : World) (hK : KAt w) : Calls Tryd.prog 3 #[] w fun e w' => e = .returned (.bool true) ∧ Below w.heap.size w w' := by
  have HK := hide hK
  have h0 := hK.pos
  clear hK
  have hcn : ∀ ao n c, Value.slice none 0 0 = .slice ao n c → n ≤ c := fun ao n c e => by simp only [Value.slice.injEq] at e; omega
  have HCN := hide hcn
  have hbu : ∀ W : World, (Instr.build 23 #[]).run Tryd.prog W = .ok (.agg (S.v8 (S.zeros 32))) W := fun W => congrFun zero_dig W
  have HBU := hide hbu
  have hnofit : Fit [] := fun x hx => by simp at hx
  have HNF := hide hnofit
  have BB := hide (Below.refl w.heap.size w)
  clear hcn hbu hnofit
  go_enter Tryd.func3, Tryd.ntmps3
  go_wp2_with fail
  refine (empty_lit 1 1 rfl w).mono ?_
  rintro r W1 ⟨rfl, hb⟩
  replace BB := hide (BB.out.trans (hb.mono BB.out.size))
  clear hb
  go_wp2_with fail
  refine (rootc_lit 32 1 1 1 1 rfl rfl (.slice none 0 0) [] W1 (by omega) (by omega) (DgAt.nil _) HCN.out (HK.out.below BB.out h0)).mono ?_
  rintro r W2 ⟨rfl, hb⟩
  rw [C.rootA_1]
  replace BB := hide (BB.out.trans (hb.mono BB.out.size))
  clear hb
  obtain ⟨A_, W3, hal, hst, -, hb, -⟩ := lay_dig W2 (S.zeros 32) (S.zeros_length 32)
  obtain ⟨gd, hgd⟩ : ∃ g, g = W2.heap.size := ⟨_, rfl⟩
  rw [← hgd] at hal hst
  clear hgd
  replace BB := hide (BB.out.trans (hb.mono BB.out.size))
  obtain ⟨VZ, hVZ⟩ : ∃ V, V = Value.agg (S.v8 (S.zeros 32)) := ⟨_, rfl⟩
  rw [← hVZ] at hst ⊢
  clear hb hVZ
  go_upto_region 2 with (first | (with_reducible refine at_op { dst := some 1, op := Op.alloc 23, type := 0, pos := "law.go:39", after := #[], guard := none } ?_; refine wpList_alloc_known rfl 23 rfl (.pointer (some ⟨gd, 0, none⟩)) A_ hal ?_) | (with_reducible refine at_op { dst := none, op := Op.store 23 (Operand.tmp 1) (Operand.tmp 20), type := 0, pos := "law.go:39", after := #[{ on := 5, ground := Ground.data }, { on := 3, ground := Ground.data }, { on := 1, ground := Ground.chain }, { on := 0, ground := Ground.phase }, { on := 1, ground := Ground.phase }, { on := 2, ground := Ground.phase }, { on := 3, ground := Ground.phase }, { on := 4, ground := Ground.textOnly Departure.lateStores }, { on := 5, ground := Ground.phase }], guard := none } ?_; refine wpList_store_as rfl 23 (.tmp 1) (.tmp 20) rfl (.pointer (some ⟨gd, 0, none⟩)) VZ rfl rfl W3 hst ?_))
  clear hal hst
  obtain ⟨WM, hmk, hrow, hbm⟩ := make_one W3
  have HROW := hide hrow
  replace BB := hide (BB.out.trans (hbm.mono BB.out.size))
  obtain ⟨gm, hgm⟩ : ∃ g, g = W3.heap.size := ⟨_, rfl⟩
  rw [← hgm] at hmk HROW
  clear hgm hbm hrow
  go_wp2_with (first | (with_reducible refine at_op { dst := some 23, op := Op.makeSlice 28 (Operand.const (Value.int IntKind.i64 1)) (Operand.const (Value.int IntKind.i64 1)), type := 28, pos := "law.go:40", after := #[], guard := none } ?_; refine wpList_makeSlice_as rfl 28 (.const (.int .i64 1)) (.const (.int .i64 1)) rfl (.int .i64 1) (.int .i64 1) rfl rfl _ _ hmk ?_) | (with_reducible refine at_op { dst := some 25, op := Op.build 23 #[], type := 23, pos := "law.go:40", after := #[], guard := none } ?_; refine wpList_build_as rfl 23 [] rfl [] rfl (.agg (S.v8 (S.zeros 32))) (HBU.out _) ?_))
  refine (add_lit 32 0 0 0 0 rfl rfl (.slice (some ⟨gm, 0, none⟩) 1 1) [S.zeros 32] (S.zeros 32) _ (C.addA_0 _ _ _) WM (by omega) (by omega) (S.zeros_length 32) HROW.out (HK.out.below BB.out h0)).mono ?_
  rintro r W4 ha
  obtain ⟨vo, vc, rfl, hd, hb⟩ := ha.none
  replace BB := hide (BB.out.trans (hb.mono BB.out.size))
  clear hb hd HROW hmk
  go_upto_region 3 with fail
  generalize hA_ : W4.alloc _ = W5
  have hb : Below W4.heap.size W4 W5 := by rw [← hA_]; exact (Below.refl _ _).alloc (Nat.le_refl _) _
  replace BB := hide (BB.out.trans (hb.mono BB.out.size))
  clear hA_ hb
  go_wp2_with fail
  refine (of_lit 32 (.slice none 0 0) [] 1 0 1 0 rfl rfl _ (C.ofA_10 _) W5 (by omega) (by omega) (BsAt.nil _) (by simp) HNF.out (HK.out.below BB.out h0)).mono ?_
  rintro r W6 ha
  obtain ⟨vo, vc, rfl, hd, hb⟩ := ha.none
  replace BB := hide (BB.out.trans (hb.mono BB.out.size))
  clear hb
  clear hd
  go_upto_region 4 with fail
  generalize hA_ : W6.alloc _ = W7
  have hb : Below W6.heap.size W6 W7 := by rw [← hA_]; exact (Below.refl _ _).alloc (Nat.le_refl _) _
  replace BB := hide (BB.out.trans (hb.mono BB.out.size))
  clear hA_ hb
  go_wp2_with fail
  refine (of_lit 32 (.slice none 0 0) [] 0 1 0 1 rfl rfl _ (C.ofA_01 _) W7 (by omega) (by omega) (BsAt.nil _) (by simp) HNF.out (HK.out.below BB.out h0)).mono ?_
  rintro r W8 ha
  obtain ⟨vo, vc, rfl, hd, hb⟩ := ha.none
  replace BB := hide (BB.out.trans (hb.mono BB.out.size))
  clear hb
  clear hd
  go_upto_region 5 with fail
  generalize hA_ : W8.alloc _ = W9
  have hb : Below W8.heap.size W8 W9 := by rw [← hA_]; exact (Below.refl _ _).alloc (Nat.le_refl _) _
  replace BB := hide (BB.out.trans (hb.mono BB.out.size))
  clear hA_ hb
  go_wp2_with fail
  refine (of_lit 32 (.slice none 0 0) [] 0 0 0 0 rfl rfl _ (C.ofA_00 _) W9 (by omega) (by omega) (BsAt.nil _) (by simp) HNF.out (HK.out.below BB.out h0)).mono ?_
  rintro r W10 ha
  obtain ⟨vo, vc, rfl, hd, hb⟩ := ha.none
  replace BB := hide (BB.out.trans (hb.mono BB.out.size))
  clear hb
  obtain ⟨vo9, hvo9⟩ : ∃ x, x = vo := ⟨_, rfl⟩
  obtain ⟨vc9, hvc9⟩ : ∃ x, x = vc := ⟨_, rfl⟩
  rw [← hvo9, ← hvc9] at hd ⊢
  clear hvo9 hvc9
  have D9 := hide (hd.dgAt (by simp) (fun d hd' => by simp at hd'))
  clear hd
  go_upto_region 6 with fail
  generalize hA_ : W10.alloc _ = W11
  have hb : Below W10.heap.size W10 W11 := by rw [← hA_]; exact (Below.refl _ _).alloc (Nat.le_refl _) _
  obtain ⟨g9, hg9⟩ : ∃ g, g = W10.heap.size := ⟨_, rfl⟩
  rw [← hg9]
  have R9 : Hid (W11.heap[g9]? = some (.cells #[.int .u64 0, .int .u64 0, .slice vo9 0 vc9] 30 (0, 0))) := by rw [← hA_, hg9]; exact heap_alloc_new _ _
  have D9 := hide (D9.out.below hb)
  clear hg9
  replace BB := hide (BB.out.trans (hb.mono BB.out.size))
  clear hA_ hb
  go_wp2_with fail
  refine (empty_lit 1 1 rfl W11).mono ?_
  rintro r W12 ⟨rfl, hb⟩
  replace R9 := hide ((hb.block _ (block_lt_of_row R9.out)).trans R9.out)
  replace D9 := hide (D9.out.below hb)
  replace BB := hide (BB.out.trans (hb.mono BB.out.size))
  clear hb
  go_wp2_with fail
  refine (empty_lit 2 2 rfl W12).mono ?_
  rintro r W13 ⟨rfl, hb⟩
  replace R9 := hide ((hb.block _ (block_lt_of_row R9.out)).trans R9.out)
  replace D9 := hide (D9.out.below hb)
  replace BB := hide (BB.out.trans (hb.mono BB.out.size))
  clear hb
  go_wp2_with fail
  refine (merge_lit 32 1 1 2 2 1 1 2 2 rfl rfl rfl rfl (.slice none 0 0) (.slice none 0 0) [] [] _ (C.mergeA_12 _) W13 (by omega) (by omega) (by omega) (by omega) (DgAt.nil _) (DgAt.nil _) (HK.out.below BB.out h0)).mono ?_
  rintro r W14 ha
  obtain ⟨vo, vc, rfl, hd, hb⟩ := ha.none
  replace R9 := hide ((hb.block _ (block_lt_of_row R9.out)).trans R9.out)
  replace D9 := hide (D9.out.below hb)
  replace BB := hide (BB.out.trans (hb.mono BB.out.size))
  clear hb
  clear hd
  go_upto_region 7 with fail
  generalize hA_ : W14.alloc _ = W15
  have hb : Below W14.heap.size W14 W15 := by rw [← hA_]; exact (Below.refl _ _).alloc (Nat.le_refl _) _
  replace R9 := hide ((hb.block _ (block_lt_of_row R9.out)).trans R9.out)
  replace D9 := hide (D9.out.below hb)
  replace BB := hide (BB.out.trans (hb.mono BB.out.size))
  clear hA_ hb
  go_wp2_with fail
  refine (empty_lit 4294967296 4294967296 rfl W15).mono ?_
  rintro r W16 ⟨rfl, hb⟩
  replace R9 := hide ((hb.block _ (block_lt_of_row R9.out)).trans R9.out)
  replace D9 := hide (D9.out.below hb)
  replace BB := hide (BB.out.trans (hb.mono BB.out.size))
  clear hb
  go_wp2_with (with_reducible refine at_op { dst := some 49, op := Op.build 23 #[], type := 23, pos := "law.go:45", after := #[], guard := none } ?_; refine wpList_build_as rfl 23 [] rfl [] rfl (.agg (S.v8 (S.zeros 32))) (HBU.out _) ?_)
  refine (add_lit 32 4294967296 4294967296 4294967296 4294967296 rfl rfl (.slice none 0 0) [] (S.zeros 32) _ (C.addA_far _ _) W16 (by omega) (by omega) (S.zeros_length 32) (DgAt.nil _) (HK.out.below BB.out h0)).mono ?_
  rintro r W17 ha
  obtain ⟨vo2, vc2, rfl, hd, hb⟩ := ha.none
  replace R9 := hide ((hb.block _ (block_lt_of_row R9.out)).trans R9.out)
  replace D9 := hide (D9.out.below hb)
  replace BB := hide (BB.out.trans (hb.mono BB.out.size))
  clear hb hd
  go_upto_region 8 with fail
  generalize hA_ : W17.alloc _ = W18
  have hb : Below W17.heap.size W17 W18 := by rw [← hA_]; exact (Below.refl _ _).alloc (Nat.le_refl _) _
  replace R9 := hide ((hb.block _ (block_lt_of_row R9.out)).trans R9.out)
  replace D9 := hide (D9.out.below hb)
  replace BB := hide (BB.out.trans (hb.mono BB.out.size))
  clear hA_ hb
  go_wp2_with fail
  refine (rootc_lit 32 2 1 2 1 rfl rfl (.slice none 0 0) [] W18 (by omega) (by omega) (DgAt.nil _) HCN.out (HK.out.below BB.out h0)).mono ?_
  rintro r W19 ⟨rfl, hb⟩
  rw [C.rootA_2]
  replace R9 := hide ((hb.block _ (block_lt_of_row R9.out)).trans R9.out)
  replace D9 := hide (D9.out.below hb)
  replace BB := hide (BB.out.trans (hb.mono BB.out.size))
  clear hb
  obtain ⟨A_, W20, hal, hst, -, hb, -⟩ := lay_dig W19 (S.zeros 32) (S.zeros_length 32)
  replace R9 := hide ((hb.block _ (block_lt_of_row R9.out)).trans R9.out)
  replace D9 := hide (D9.out.below hb)
  obtain ⟨gd, hgd⟩ : ∃ g, g = W19.heap.size := ⟨_, rfl⟩
  rw [← hgd] at hal hst
  clear hgd
  replace BB := hide (BB.out.trans (hb.mono BB.out.size))
  obtain ⟨VZ, hVZ⟩ : ∃ V, V = Value.agg (S.v8 (S.zeros 32)) := ⟨_, rfl⟩
  rw [← hVZ] at hst ⊢
  clear hb hVZ
  go_upto_region 9 with (first | (with_reducible refine at_op { dst := some 15, op := Op.alloc 23, type := 0, pos := "law.go:46", after := #[], guard := none } ?_; refine wpList_alloc_known rfl 23 rfl (.pointer (some ⟨gd, 0, none⟩)) A_ hal ?_) | (with_reducible refine at_op { dst := none, op := Op.store 23 (Operand.tmp 15) (Operand.tmp 56), type := 0, pos := "law.go:46", after := #[{ on := 5, ground := Ground.data }, { on := 3, ground := Ground.data }, { on := 1, ground := Ground.chain }, { on := 0, ground := Ground.phase }, { on := 1, ground := Ground.phase }, { on := 2, ground := Ground.phase }, { on := 3, ground := Ground.phase }, { on := 4, ground := Ground.textOnly Departure.lateStores }, { on := 5, ground := Ground.phase }], guard := none } ?_; refine wpList_store_as rfl 23 (.tmp 15) (.tmp 56) rfl (.pointer (some ⟨gd, 0, none⟩)) VZ rfl rfl W20 hst ?_))
  clear hal hst
  obtain ⟨c0, c1, c2⟩ := cells3 R9.out
  go_wp2_with fail
  refine (same14_lit (.slice vo9 0 vc9) (.slice none 0 0) [] W20 D9.out (DgAt.nil _)).mono ?_
  rintro r W21 ⟨rfl, hb⟩
  replace BB := hide (BB.out.trans (hb.mono BB.out.size))
  clear hb R9 D9 c0 c1 c2
  go_wp2_with fail
  refine (blocks_lit 5 5 5 5 rfl rfl W21 (by omega) (by omega)).mono ?_
  rintro r W22 ⟨⟨vb, rfl, hv⟩, hb⟩
  rw [C.blocks_none 5 5 (by omega)] at hv
  obtain ⟨bo1, bc1, rfl⟩ := hv.form
  replace BB := hide (BB.out.trans (hb.mono BB.out.size))
  clear hb
  clear hv
  rw [show ([] : List Nat).length = 0 from rfl]
  go_wp2_with fail
  refine (blocks_lit 0 4294967297 0 4294967297 rfl rfl W22 (by omega) (by omega)).mono ?_
  rintro r W23 ⟨⟨vb, rfl, hv⟩, hb⟩
  rw [C.blocks_none 0 4294967297 (by omega)] at hv
  obtain ⟨bo2, bc2, rfl⟩ := hv.form
  replace BB := hide (BB.out.trans (hb.mono BB.out.size))
  clear hb
  clear hv
  rw [show ([] : List Nat).length = 0 from rfl]
  go_wp2_with fail
  refine (blocks_lit 0 4294967296 0 4294967296 rfl rfl W23 (by omega) (by omega)).mono ?_
  rintro r W24 ⟨⟨vb, rfl, hv⟩, hb⟩
  rw [C.blocks_far] at hv
  obtain ⟨bo3, bc3, rfl⟩ := hv.form
  replace BB := hide (BB.out.trans (hb.mono BB.out.size))
  clear hb
  have HV := hide (hv.mono (Nat.zero_le _))
  clear hv
  rw [show ([4294967296] : List Nat).length = 1 from rfl] at HV ⊢
  have hbs := bs38one W24 4294967296
  obtain ⟨W25, hX⟩ : ∃ X, X = W24.alloc (.cells (encU 4294967296).toArray 27) := ⟨_, rfl⟩
  rw [← hX] at hbs
  have hb : Below W24.heap.size W24 W25 := by rw [hX]; exact (Below.refl _ _).alloc (Nat.le_refl _) _
  have RX : Hid (W25.heap[W24.heap.size]? = some (.cells (([4294967296] : List Nat).flatMap encU).toArray 27 (0, 0))) := by rw [hX]; exact heap_alloc_new _ _
  replace HV := hide (HV.out.below hb)
  obtain ⟨gx, hgx⟩ : ∃ g, g = W24.heap.size := ⟨_, rfl⟩
  rw [← hgx] at hbs RX
  replace BB := hide (BB.out.trans (hb.mono BB.out.size))
  clear hb hX hgx
  go_wp2_with (with_reducible refine at_op { dst := some 105, op := Op.buildSlice 38 1 #[(0, Operand.const (Value.int IntKind.u64 4294967296))], type := 38, pos := "law.go:47", after := #[{ on := 45, ground := Ground.guard }], guard := some (45, true) } ?_; refine buildSlice_when rfl 38 1 [(0, .const (.int .u64 4294967296))] rfl [(0, .int .u64 4294967296)] rfl _ _ hbs ?_)
  refine (samen_any 0 0 (.slice bo3 1 bc3) (.slice (some ⟨gx, 0, none⟩) 1 1) [4294967296] W25 HV.out (NRow.lit (ns := [4294967296]) RX.out (by simp) (Nat.zero_le _)) (by simp)).mono ?_
  rintro r W26 ⟨rfl, hb⟩
  replace BB := hide (BB.out.trans (hb.mono BB.out.size))
  clear hb HV RX hbs
  go_wp2_with fail
  refine (known10_any W26 (HK.out.below BB.out h0)).mono ?_
  rintro r W27 ⟨rfl, hb⟩
  replace BB := hide (BB.out.trans (hb.mono BB.out.size))
  clear hb
  go_wp2_with fail
  go_ret
  exact ⟨rfl, BB.out⟩
end Go.Proofs.YtkljajfgdelfgaaDoor
