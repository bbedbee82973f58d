/- The runs that are known. -/
import Derived.Test.YtlbggkmblkhjoaaDoorWi
namespace Go.Proofs.YtlbggkmblkhjoaaDoor
open Go.RowKit

theorem DgAt.nil (w : World) : DgAt w (.slice none 0 0) [] := ⟨none, 0, rfl, by simp, by simp, fun h => by simp at h⟩
theorem DgRow.cap {B : Nat} {w : World} {v : Value} {ds : List (List UInt8)} (h : DgRow B w v ds) : ∀ ao n c, v = .slice ao n c → n ≤ c := fun ao n c e => by
  rcases h.2 with ⟨rfl, h0⟩ | ⟨g, cap, cur, rfl, _, _, h1, _⟩
  · simp only [Value.slice.injEq] at e; omega
  · simp only [Value.slice.injEq] at e; omega
theorem leafv_lit (a : Int) (v u : Value) (bs : List UInt8) (i n : Nat) (zi zn : Int) (hzi : zi = (i : Int)) (hzn : zn = (n : Int)) (ps : List (List UInt8)) (rt : List UInt8) (hrt : rt.length = 32) (w : World) (hi : i < 18446744073709551616) (hn : n < 18446744073709551616) (hv : SliceAt w v bs) (hl : bs.length + 1 ≤ 140737488355328) (hu : DgAt w u ps) (hps : ps.length ≤ 90000) (hK : KAt w) :
   Calls Tryd.prog 11 #[.int .i64 a, v, .int .u64 zi, .int .u64 zn, u, .agg (S.v8 rt)] w fun e w' => e = .returned (.bool (S.vLeaf a bs i n ps rt)) ∧ Below w.heap.size w w' := by
  rw [hzi, hzn]
  exact leafv_any a v u bs i n ps rt hrt w hi hn hv hl hu hps hK
theorem prefix_lit (a : Int) (u : Value) (m n : Nat) (zm zn : Int) (hzm : zm = (m : Int)) (hzn : zn = (n : Int)) (old rt : List UInt8) (hold : old.length = 32) (hrt : rt.length = 32) (ps : List (List UInt8)) (w : World) (hm : m < 18446744073709551616) (hn : n < 18446744073709551616) (hu : DgAt w u ps) (hcu : ∀ ao n c, u = .slice ao n c → n ≤ c) (hK : KAt w) :
   Calls Tryd.prog 12 #[.int .i64 a, .int .u64 zm, .int .u64 zn, .agg (S.v8 old), .agg (S.v8 rt), u] w fun e w' => e = .returned (.bool (S.vPre a m n old rt ps)) ∧ Below w.heap.size w w' := by
  rw [hzm, hzn]
  exact prefix_any a u m n old rt hold hrt ps w hm hn hu hcu hK
theorem buildSlice_when {w : World} {ops : Array Oper} {rest : List Oper} {o : Oper} {a : Act} {Q : Exit → Act → World → Prop} (hw : Region.wanted o (yielded ops a.tmps) = true) (t : TypeId) (n : Nat) (parts : List (Nat × Operand)) (ho : o.op = .buildSlice t n parts.toArray) (vs : List (Nat × Value)) (hvs : (parts.map fun p => (p.1, a.eval p.2)) = vs) (v : Value) (w' : World)
    (hr : (Instr.buildSlice t n vs.toArray).run Tryd.prog w = .ok v w') (h : wpList Tryd.prog ops Q rest (a.put o.dst v) w') : wpList Tryd.prog ops Q (o :: rest) a w := by
  subst hvs
  exact wpList_step fun _ hK => by
    rw [if_pos hw]
    unfold Oper.wp execOp
    simp only [ho, Sem.run_bind, List.map_toArray, hr, Result.andThen_ok]
    exact hK _ _ h
theorem mark_at {w : World} {x : UInt8} {c : Int} {r : Nat × Nat} (hc : c = (x.toNat : Int)) : ∀ W, Below (w.heap.size + 1) (w.alloc (.cells #[.int .u8 c] 5 r)) W → SliceAt W (.slice (some ⟨w.heap.size, 0, none⟩) 1 1) [x] := fun W hW => by
  refine Or.inr (Or.inr ⟨w.heap.size, 0, 1, rfl, by simp, by simp, Nat.lt_of_lt_of_le (by simp) hW.size, fun j hj => ?_⟩)
  rw [hW.cell (p := ⟨w.heap.size, 0 + j, none⟩) (by show w.heap.size < _; omega)]
  obtain rfl : j = 0 := by simp at hj; exact hj
  rw [World.cell?_alloc_mark, hc]
  rfl
/-- A text of one byte is laid. -/
theorem mark_new (w : World) (x : UInt8) (c : Int) (r : Nat × Nat) (hc : c = (x.toNat : Int)) : Below w.heap.size w (w.alloc (.cells #[.int .u8 c] 5 r)) ∧ SliceAt (w.alloc (.cells #[.int .u8 c] 5 r)) (.slice (some ⟨w.heap.size, 0, none⟩) 1 1) [x] :=
  ⟨(Below.refl _ _).alloc (Nat.le_refl _) _, mark_at hc _ (Below.refl _ _)⟩
set_option maxHeartbeats 16000000 in
set_option maxRecDepth 10000 in
theorem known9_any (w : World) (hK : KAt w) : Calls Tryd.prog 13 #[] w fun e w' => e = .returned (.bool true) ∧ Below w.heap.size w w' := by
  have HK := hide hK
  have h0 := hK.pos
  have kc := fun (w : World) (C : Array Value) (n c : Nat) => Lib.run_convert_bytes_const (P := Tryd.prog) w 25 5 C n c Tryd.underlying25 Tryd.underlying5
  clear hK
  go_enter Tryd.func13, Tryd.ntmps13
  go_upto_region 1 with fail
  go_wp2_with fail
  obtain ⟨YA, hYA⟩ : ∃ Y, Y = w.alloc (.cells #[.int .u8 97] 5 (1, 2)) := ⟨_, rfl⟩
  have mA := mark_new w 97 97 (1, 2) rfl
  rw [← hYA] at mA ⊢
  have BA := hide mA.1
  have SA := hide mA.2
  clear hYA mA
  refine (leaf_any 32 _ [97] YA SA.out (by simp) (HK.out.below BA.out h0)).mono ?_
  rintro e w1 ⟨rfl, b1⟩
  obtain ⟨A, hA⟩ : ∃ D, D = S.leaf 32 [97] := ⟨_, rfl⟩
  rw [← hA]
  have LA := hide (show A.length = 32 by rw [hA, S.leaf_length])
  have EA := hide hA
  obtain ⟨AL, Y, hal, hst, ry, by1, sy⟩ := lay_dig w1 A LA.out
  obtain ⟨gr, hgr⟩ : ∃ g, g = w1.heap.size := ⟨_, rfl⟩
  rw [← hgr] at hal hst ry
  have BY := hide ((BA.out.trans (b1.mono BA.out.size)).trans (by1.mono (Nat.le_trans BA.out.size b1.size)))
  have RY := hide ry
  clear hA b1 ry by1 sy hgr BA SA
  obtain ⟨Y1, hY1⟩ : ∃ Z, Z = Y.alloc (.cells #[.int .u8 97] 5 (1, 2)) := ⟨_, rfl⟩
  have mB := mark_new Y 97 97 (1, 2) rfl
  rw [← hY1] at mB
  have RY1 : Hid (Y1.heap[gr]? = some (.cells (S.v8 A) 23 (0, 0))) := (mB.1.block _ (block_lt_of_row RY.out)).trans RY.out
  have hl1 := load_dig RY1.out LA.out
  have BY1 := hide (BY.out.trans (mB.1.mono BY.out.size))
  have SB := hide mB.2
  have HY1 := hide hY1
  rw [hY1] at hl1
  clear hY1 mB
  go_wp2_with (first | (with_reducible refine at_op { dst := some 1, op := Op.alloc 23, type := 0, pos := "law.go:28", after := #[], guard := none } ?_; refine wpList_alloc_known rfl 23 rfl (.pointer (some ⟨gr, 0, none⟩)) AL hal ?_) | (with_reducible refine at_op { dst := none, op := Op.store 23 (Operand.tmp 1) (Operand.tmp 4), type := 0, pos := "law.go:28", after := #[{ on := 3, ground := Ground.data }, { on := 2, ground := Ground.data }, { on := 2, ground := Ground.chain }, { on := 0, ground := Ground.phase }, { on := 1, ground := Ground.phase }, { on := 2, ground := Ground.phase }, { on := 3, ground := Ground.phase }], guard := none } ?_; refine wpList_store_as rfl 23 (.tmp 1) (.tmp 4) rfl (.pointer (some ⟨gr, 0, none⟩)) (.agg (S.v8 A)) rfl rfl Y hst ?_) | (with_reducible refine at_op { dst := some 7, op := Op.load 23 (Operand.tmp 1), type := 23, pos := "law.go:29", after := #[], guard := none } ?_; refine wpList_load_as rfl 23 (.tmp 1) rfl (.pointer (some ⟨gr, 0, none⟩)) rfl (.agg (S.v8 A)) hl1 ?_))
  rw [← HY1.out]
  clear hal hst hl1 HY1
  refine (leafv_lit 32 _ _ [97] 0 1 0 1 rfl rfl [] A LA.out Y1 (by omega) (by omega) SB.out (by simp) (DgAt.nil _) (by simp) (HK.out.below BY1.out h0)).mono ?_
  rintro e w2 ⟨rfl, b2⟩
  rw [show S.vLeaf 32 [97] 0 1 [] A = true by rw [EA.out]; exact S.vLeaf_only 32 [97]]
  have R2 : Hid (w2.heap[gr]? = some (.cells (S.v8 A) 23 (0, 0))) := (b2.block _ (block_lt_of_row RY1.out)).trans RY1.out
  have B2 := hide (BY1.out.trans (b2.mono BY1.out.size))
  clear b2 RY1 BY1 SB RY BY
  -- the second question
  obtain ⟨Y2, hY2⟩ : ∃ Z, Z = w2.alloc (.cells #[.int .u8 97] 5 (1, 2)) := ⟨_, rfl⟩
  have mC := mark_new w2 97 97 (1, 2) rfl
  rw [← hY2] at mC
  have R3 : Hid (Y2.heap[gr]? = some (.cells (S.v8 A) 23 (0, 0))) := (mC.1.block _ (block_lt_of_row R2.out)).trans R2.out
  have hl3 := load_dig R3.out LA.out
  have hbs := bs24one Y2 A LA.out
  obtain ⟨Y3, hY3⟩ : ∃ Z, Z = Y2.alloc (.cells (S.v8 A) 23) := ⟨_, rfl⟩
  rw [← hY3] at hbs
  have b3 : Below Y2.heap.size Y2 Y3 := by rw [hY3]; exact (Below.refl _ _).alloc (Nat.le_refl _) _
  have r3 : Y3.heap[Y2.heap.size]? = some (.cells (S.v8 A) 23 (0, 0)) := by rw [hY3]; exact heap_alloc_new _ _
  have R4 : Hid (Y3.heap[gr]? = some (.cells (S.v8 A) 23 (0, 0))) := (b3.block _ (block_lt_of_row R3.out)).trans R3.out
  have hl4 := load_dig R4.out LA.out
  obtain ⟨gs, hgs⟩ : ∃ g, g = Y2.heap.size := ⟨_, rfl⟩
  have DG := hide ((dgRow_one (B := 0) r3 LA.out (Nat.zero_le _)).dgAt (by simp) (by intro d hd; simp only [List.mem_singleton] at hd; rw [hd]; exact LA.out))
  rw [← hgs] at hbs DG
  have SC := hide (mC.2.below b3 (Nat.le_refl _))
  have B3 := hide ((B2.out.trans (mC.1.mono B2.out.size)).trans (b3.mono (Nat.le_trans B2.out.size mC.1.size)))
  have R3Z := R3
  rw [hY2] at R3Z hbs
  clear hY2 hY3 b3 r3 hgs mC R3 hl3 hl4
  go_wp2_with (first | (with_reducible refine at_op { dst := some 12, op := Op.load 23 (Operand.tmp 1), type := 23, pos := "law.go:29", after := #[{ on := 4, ground := Ground.guard }], guard := some (4, true) } ?_; refine load_dig_when rfl (.tmp 1) rfl gr rfl A R3Z.out LA.out ?_) | (with_reducible refine at_op { dst := some 13, op := Op.buildSlice 32 1 #[(0, Operand.tmp 12)], type := 32, pos := "law.go:29", after := #[{ on := 7, ground := Ground.data }, { on := 4, ground := Ground.guard }], guard := some (4, true) } ?_; refine buildSlice_when rfl 32 1 [(0, .tmp 12)] rfl [(0, .agg (S.v8 A))] rfl (.slice (some ⟨gs, 0, none⟩) 1 1) Y3 hbs ?_) | (with_reducible refine at_op { dst := some 14, op := Op.load 23 (Operand.tmp 1), type := 23, pos := "law.go:29", after := #[{ on := 4, ground := Ground.guard }], guard := some (4, true) } ?_; refine load_dig_when rfl (.tmp 1) rfl gr rfl A R4.out LA.out ?_))
  clear hbs R3Z
  refine (leafv_lit 32 _ _ [97] 0 1 0 1 rfl rfl [A] A LA.out Y3 (by omega) (by omega) SC.out (by simp) DG.out (by simp) (HK.out.below B3.out h0)).mono ?_
  rintro e w4 ⟨rfl, b4⟩
  rw [S.vLeaf_over 32 [97] A A []]
  have R5 : Hid (w4.heap[gr]? = some (.cells (S.v8 A) 23 (0, 0))) := (b4.block _ (block_lt_of_row R4.out)).trans R4.out
  have B4 := hide (B3.out.trans (b4.mono B3.out.size))
  clear b4 R4 B3 SC DG
  go_wp2_with (first | (with_reducible refine at_op { dst := some 19, op := Op.load 23 (Operand.tmp 1), type := 23, pos := "law.go:29", after := #[{ on := 13, ground := Ground.guard }], guard := some (13, true) } ?_; refine load_dig_when rfl (.tmp 1) rfl gr rfl A R5.out LA.out ?_) | (with_reducible refine at_op { dst := some 20, op := Op.load 23 (Operand.tmp 1), type := 23, pos := "law.go:29", after := #[{ on := 13, ground := Ground.guard }], guard := some (13, true) } ?_; refine load_dig_when rfl (.tmp 1) rfl gr rfl A R5.out LA.out ?_))
  refine (prefix_lit 32 _ 1 1 1 1 rfl rfl A A LA.out LA.out [] w4 (by omega) (by omega) (DgAt.nil _) (fun ao n c e => by simp only [Value.slice.injEq] at e; omega) (HK.out.below B4.out h0)).mono ?_
  rintro e w5 ⟨rfl, b5⟩
  rw [S.vPre_same 32 1 (by omega) A A, decide_eq_true rfl]
  have R6 : Hid (w5.heap[gr]? = some (.cells (S.v8 A) 23 (0, 0))) := (b5.block _ (block_lt_of_row R5.out)).trans R5.out
  have B5 := hide (B4.out.trans (b5.mono B4.out.size))
  clear b5 R5 B4
  go_wp2_with (first | (with_reducible refine at_op { dst := some 24, op := Op.load 23 (Operand.tmp 1), type := 23, pos := "law.go:29", after := #[{ on := 18, ground := Ground.guard }], guard := some (18, true) } ?_; refine load_dig_when rfl (.tmp 1) rfl gr rfl A R6.out LA.out ?_) | (with_reducible refine at_op { dst := some 25, op := Op.load 23 (Operand.tmp 1), type := 23, pos := "law.go:29", after := #[{ on := 18, ground := Ground.guard }], guard := some (18, true) } ?_; refine load_dig_when rfl (.tmp 1) rfl gr rfl A R6.out LA.out ?_))
  refine (prefix_lit 32 _ 0 1 0 1 rfl rfl A A LA.out LA.out [] w5 (by omega) (by omega) (DgAt.nil _) (fun ao n c e => by simp only [Value.slice.injEq] at e; omega) (HK.out.below B5.out h0)).mono ?_
  rintro e w6 ⟨rfl, b6⟩
  rw [S.vPre_none 32 1 A A []]
  have B6 := hide (B5.out.trans (b6.mono B5.out.size))
  clear b6 R6 B5
  go_wp2_with fail
  go_ret
  exact ⟨rfl, B6.out⟩
end Go.Proofs.YtlbggkmblkhjoaaDoor
