/- VerifyNumbers. -/
import Derived.Test.YtlbggkmblkhjoaaDoorWl
namespace Go.Proofs.YtlbggkmblkhjoaaDoor
open Go.RowKit

theorem collide_lit (a : Int) (v u p q : Value) (bs cs : List UInt8) (i n : Nat) (zi zn : Int) (hzi : zi = (i : Int)) (hzn : zn = (n : Int)) (ps qs : List (List UInt8)) (w : World) (hn : n < 18446744073709551616) (hv : SliceAt w v bs) (hu : SliceAt w u cs) (hl : bs.length + 1 ≤ 140737488355328) (hl2 : cs.length + 1 ≤ 140737488355328) (hp : DgAt w p ps) (hps : ps.length ≤ 90000) (hq : DgAt w q qs) (hqs : qs.length ≤ 90000) (hK : KAt w) :
   Calls Tryd.prog 10 #[.int .i64 a, v, u, .int .u64 zi, .int .u64 zn, p, q] w fun e w' => Told2 w w' e (S.vColl a bs cs i n ps qs) := by
  rw [hzi, hzn]
  exact collide_any a v u p q bs cs i n ps qs w hn hv hu hl hl2 hp hps hq hqs hK
theorem S.cut_whole (b : List UInt8) : S.cut (S.leaf 32 b) (S.cw 32) = S.leaf 32 b := S.cut_leaf 32 b
theorem one_new (w : World) (x : UInt8) (c : Int) (hc : c = (x.toNat : Int)) : Below w.heap.size w (w.alloc (.cells #[.int .u8 c] 5)) ∧ SliceAt (w.alloc (.cells #[.int .u8 c] 5)) (.slice (some ⟨w.heap.size, 0, none⟩) 1 1) [x] :=
  ⟨(Below.refl _ _).alloc (Nat.le_refl _) _, one8_at (x := x) hc (heap_alloc_new _ _)⟩
theorem two_new (w : World) (x : UInt8) (c : Int) (hc : c = (x.toNat : Int)) : Below w.heap.size w (w.alloc (.cells #[.int .u8 0, .int .u8 c] 5)) ∧ SliceAt (w.alloc (.cells #[.int .u8 0, .int .u8 c] 5)) (.slice (some ⟨w.heap.size, 0, none⟩) 2 2) [0, x] := by
  subst hc
  refine ⟨(Below.refl _ _).alloc (Nat.le_refl _) _, Or.inr (Or.inr ⟨w.heap.size, 0, 2, rfl, by simp, by simp, by simp, fun j hj => ?_⟩)⟩
  rw [cell_of_row _ _ _ _ _ _ (heap_alloc_new _ _)]
  rcases (by simp at hj; omega : j = 0 ∨ j = 1) with rfl | rfl <;> rfl
theorem wpList_conv_as {w : World} {ops : Array Oper} {rest : List Oper} {o : Oper} {a : Act} {Q : Exit → Act → World → Prop} (hgd : o.guard = none) (t u : TypeId) (x : Operand) (ho : o.op = .convert t u x) (vx : Value) (hx : a.eval x = vx) (v : Value) (w' : World)
    (hr : (convert t u vx).run Tryd.prog w = .ok v w') (h : wpList Tryd.prog ops Q rest (a.put o.dst v) w') : wpList Tryd.prog ops Q (o :: rest) a w := by
  subst hx
  exact wpList_plain hgd fun _ hK => by
    unfold Oper.wp execOp
    simp only [ho, Sem.run_bind, hr, Result.andThen_ok]
    exact hK _ _ h
set_option maxHeartbeats 16000000 in
set_option maxRecDepth 10000 in
theorem verifyNumbers_walk (w : World) (hK : KAt w) : Calls Tryd.prog 3 #[] w fun e w' => e = .returned (.bool true) ∧ Below w.heap.size w w' := by
  have HK := hide hK
  have h0 := hK.pos
  have kc := fun (w : World) (C : Array Value) (n c : Nat) => Lib.run_convert_bytes_const (P := Tryd.prog) w 25 5 C n c Tryd.underlying25 Tryd.underlying5
  clear hK
  go_enter Tryd.func3, Tryd.ntmps3
  go_wp2_with fail
  obtain ⟨YA, hYA⟩ : ∃ YQ, YQ = w.alloc (.cells #[.int .u8 97] 5 (1, 2)) := ⟨_, rfl⟩
  have mA := mark_new w 97 97 (1, 2) rfl
  rw [← hYA] at mA ⊢
  have BA := hide mA.1
  have SA := hide mA.2
  clear hYA mA
  refine (leaf_any 32 _ [97] YA SA.out (by simp) (HK.out.below BA.out h0)).mono ?_
  rintro e w1 ⟨rfl, b1⟩
  obtain ⟨A, hA⟩ : ∃ D, D = S.leaf 32 [97] := ⟨_, rfl⟩
  rw [← hA]
  have LA := hide (show A.length = 32 by rw [hA, S.leaf_length])
  have EA := hide hA
  have Bw1 := hide (BA.out.trans (b1.mono BA.out.size))
  clear hA b1 BA
  clear SA
  obtain ⟨AL, Y, hal, hst, ry, by1, sy⟩ := lay_dig w1 A LA.out
  obtain ⟨gr, hgr⟩ : ∃ g, g = w1.heap.size := ⟨_, rfl⟩
  rw [← hgr] at hal hst ry
  have BY := hide (Bw1.out.trans (by1.mono Bw1.out.size))
  have RA := hide ry
  clear ry by1 sy hgr Bw1
  go_wp2_with (first | (with_reducible refine at_op { dst := some 1, op := Op.alloc 23, type := 0, pos := "law.go:34", after := #[], guard := none } ?_; refine wpList_alloc_known rfl 23 rfl (.pointer (some ⟨gr, 0, none⟩)) AL hal ?_) | (with_reducible refine at_op { dst := none, op := Op.store 23 (Operand.tmp 1) (Operand.tmp 16), type := 0, pos := "law.go:34", after := #[{ on := 3, ground := Ground.data }, { on := 2, ground := Ground.data }, { on := 2, ground := Ground.chain }, { on := 0, ground := Ground.phase }, { on := 1, ground := Ground.phase }, { on := 2, ground := Ground.phase }, { on := 3, ground := Ground.phase }], guard := none } ?_; refine wpList_store_as rfl 23 (.tmp 1) (.tmp 16) rfl (.pointer (some ⟨gr, 0, none⟩)) (.agg (S.v8 A)) rfl rfl Y hst ?_))
  clear hal hst
  obtain ⟨YB, hYB⟩ : ∃ YQ, YQ = Y.alloc (.cells #[.int .u8 98] 5 (1, 2)) := ⟨_, rfl⟩
  have mA := mark_new Y 98 98 (1, 2) rfl
  rw [← hYB] at mA ⊢
  have BA := hide (BY.out.trans (mA.1.mono BY.out.size))
  have SA := hide mA.2
  have RA2 : Hid (YB.heap[gr]? = some (.cells (S.v8 A) 23 (0, 0))) := (mA.1.block _ (block_lt_of_row RA.out)).trans RA.out
  clear hYB mA
  refine (leaf_any 32 _ [98] YB SA.out (by simp) (HK.out.below BA.out h0)).mono ?_
  rintro e w2 ⟨rfl, b1⟩
  obtain ⟨E, hE⟩ : ∃ D, D = S.leaf 32 [98] := ⟨_, rfl⟩
  rw [← hE]
  have LE := hide (show E.length = 32 by rw [hE, S.leaf_length])
  have EE := hide hE
  have Bw2 := hide (BA.out.trans (b1.mono BA.out.size))
  have RA3 : Hid (w2.heap[gr]? = some (.cells (S.v8 A) 23 (0, 0))) := (b1.block _ (block_lt_of_row RA2.out)).trans RA2.out
  clear hE b1 BA SA RA2 RA BY
  obtain ⟨AL, X, hal, hst, ry, by1, sy⟩ := lay_dig w2 E LE.out
  obtain ⟨gs, hgs⟩ : ∃ g, g = w2.heap.size := ⟨_, rfl⟩
  rw [← hgs] at hal hst ry
  have BX := hide (Bw2.out.trans (by1.mono Bw2.out.size))
  have REX := hide ry
  have RAX : Hid (X.heap[gr]? = some (.cells (S.v8 A) 23 (0, 0))) := (by1.block _ (block_lt_of_row RA3.out)).trans RA3.out
  clear ry by1 sy hgs Bw2 RA3
  go_upto_region 3 with (first | (with_reducible refine at_op { dst := some 2, op := Op.alloc 23, type := 0, pos := "law.go:35", after := #[], guard := none } ?_; refine wpList_alloc_known rfl 23 rfl (.pointer (some ⟨gs, 0, none⟩)) AL hal ?_) | (with_reducible refine at_op { dst := none, op := Op.store 23 (Operand.tmp 2) (Operand.tmp 19), type := 0, pos := "law.go:35", after := #[{ on := 3, ground := Ground.data }, { on := 2, ground := Ground.data }, { on := 2, ground := Ground.chain }, { on := 0, ground := Ground.phase }, { on := 1, ground := Ground.phase }, { on := 2, ground := Ground.phase }, { on := 3, ground := Ground.phase }], guard := none } ?_; refine wpList_store_as rfl 23 (.tmp 2) (.tmp 19) rfl (.pointer (some ⟨gs, 0, none⟩)) (.agg (S.v8 E)) rfl rfl X hst ?_))
  clear hal hst
  obtain ⟨Pw3, hPw3⟩ : ∃ YQ, YQ = X.alloc (.cells #[.int .u8 97] 5 (1, 2)) := ⟨_, rfl⟩
  have mA := mark_new X 97 97 (1, 2) rfl
  have kd : (convert 25 25 (.slice (some ⟨X.heap.size, 0, none⟩) 1 1)).run Tryd.prog (X.alloc (.cells #[.int .u8 97] 5)) = .ok (.slice (some ⟨X.heap.size, 0, none⟩) 1 1) Pw3 := by rw [hPw3]; exact kc X #[.int .u8 97] 1 1
  have kd2 := kc Pw3 #[.int .u8 97] 1 1
  have KC := hide kc
  clear kc
  rw [← hPw3] at mA
  obtain ⟨Qw3, hQw3⟩ : ∃ YQ, YQ = Pw3.alloc (.cells #[.int .u8 97] 5 (1, 2)) := ⟨_, rfl⟩
  have mB := mark_new Pw3 97 97 (1, 2) rfl
  rw [← hQw3] at mB
  have hbQ : Below X.heap.size X Qw3 := mA.1.trans (mB.1.mono mA.1.size)
  have SA := hide (mA.2.below mB.1 (Nat.le_refl _))
  have SB := hide mB.2
  have BQ := hide (BX.out.trans (hbQ.mono BX.out.size))
  have HP := hide hPw3
  have HQ := hide hQw3
  have RAQw3 : Hid (Qw3.heap[gr]? = some (.cells (S.v8 A) 23 (0, 0))) := (hbQ.block _ (block_lt_of_row RAX.out)).trans RAX.out
  have REQw3 : Hid (Qw3.heap[gs]? = some (.cells (S.v8 E) 23 (0, 0))) := (hbQ.block _ (block_lt_of_row REX.out)).trans REX.out
  clear mA mB hPw3 hQw3 hbQ
  go_wp2_with (with_reducible refine at_op { dst := some 22, op := Op.convert 25 25 (Operand.tmp 21), type := 25, pos := "law.go:36", after := #[{ on := 0, ground := Ground.data }], guard := none } ?_; refine wpList_conv_as rfl 25 25 (.tmp 21) rfl (.slice (some ⟨X.heap.size, 0, none⟩) 1 1) rfl (.slice (some ⟨X.heap.size, 0, none⟩) 1 1) Pw3 kd ?_)
  clear kd kd2
  have kc := KC.out
  clear KC
  rw [← HQ.out]
  refine (collide_lit 32 _ _ _ _ [97] [97] 0 1 0 1 rfl rfl [] [] Qw3 (by omega) SA.out SB.out (by simp) (by simp) (DgAt.nil _) (by simp) (DgAt.nil _) (by simp) (HK.out.below BQ.out h0)).mono ?_
  rintro e w3 hT
  rw [S.vColl_same 32 [97] 0 1 [] []] at hT
  obtain ⟨⟨xow3, xlw3, xcw3, yow3, ylw3, ycw3, rfl, -, -⟩, hbw3⟩ := hT
  simp only [Option.isSome_none]
  have RAw3 : Hid (w3.heap[gr]? = some (.cells (S.v8 A) 23 (0, 0))) := (hbw3.block _ (block_lt_of_row RAQw3.out)).trans RAQw3.out
  have REw3 : Hid (w3.heap[gs]? = some (.cells (S.v8 E) 23 (0, 0))) := (hbw3.block _ (block_lt_of_row REQw3.out)).trans REQw3.out
  have Bw3 := hide (BQ.out.trans (hbw3.mono BQ.out.size))
  clear hbw3 SA SB BQ HP HQ RAQw3 REQw3 RAX REX BX
  go_upto_region 4 with fail
  obtain ⟨Pw4, hPw4⟩ : ∃ YQ, YQ = w3.alloc (.cells #[.int .u8 97] 5 (1, 2)) := ⟨_, rfl⟩
  have mA := mark_new w3 97 97 (1, 2) rfl
  have kd : (convert 25 25 (.slice (some ⟨w3.heap.size, 0, none⟩) 1 1)).run Tryd.prog (w3.alloc (.cells #[.int .u8 97] 5)) = .ok (.slice (some ⟨w3.heap.size, 0, none⟩) 1 1) Pw4 := by rw [hPw4]; exact kc w3 #[.int .u8 97] 1 1
  have kd2 := kc Pw4 #[.int .u8 98] 1 1
  have KC := hide kc
  clear kc
  rw [← hPw4] at mA
  obtain ⟨Qw4, hQw4⟩ : ∃ YQ, YQ = Pw4.alloc (.cells #[.int .u8 98] 5 (1, 2)) := ⟨_, rfl⟩
  have mB := mark_new Pw4 98 98 (1, 2) rfl
  rw [← hQw4] at mB
  have hbQ : Below w3.heap.size w3 Qw4 := mA.1.trans (mB.1.mono mA.1.size)
  have SA := hide (mA.2.below mB.1 (Nat.le_refl _))
  have SB := hide mB.2
  have BQ := hide (Bw3.out.trans (hbQ.mono Bw3.out.size))
  have HP := hide hPw4
  have HQ := hide hQw4
  have RAQw4 : Hid (Qw4.heap[gr]? = some (.cells (S.v8 A) 23 (0, 0))) := (hbQ.block _ (block_lt_of_row RAw3.out)).trans RAw3.out
  have REQw4 : Hid (Qw4.heap[gs]? = some (.cells (S.v8 E) 23 (0, 0))) := (hbQ.block _ (block_lt_of_row REw3.out)).trans REw3.out
  clear mA mB hPw4 hQw4 hbQ
  go_wp2_with (with_reducible refine at_op { dst := some 31, op := Op.convert 25 25 (Operand.tmp 30), type := 25, pos := "law.go:37", after := #[{ on := 0, ground := Ground.data }], guard := none } ?_; refine wpList_conv_as rfl 25 25 (.tmp 30) rfl (.slice (some ⟨w3.heap.size, 0, none⟩) 1 1) rfl (.slice (some ⟨w3.heap.size, 0, none⟩) 1 1) Pw4 kd ?_)
  clear kd kd2
  have kc := KC.out
  clear KC
  rw [← HQ.out]
  refine (collide_lit 32 _ _ _ _ [97] [98] 0 1 0 1 rfl rfl [] [] Qw4 (by omega) SA.out SB.out (by simp) (by simp) (DgAt.nil _) (by simp) (DgAt.nil _) (by simp) (HK.out.below BQ.out h0)).mono ?_
  rintro e w4 hT
  rw [S.vColl_only 32 [97] [98] (by decide), if_neg S.leaf32_ab] at hT
  obtain ⟨⟨xow4, xlw4, xcw4, yow4, ylw4, ycw4, rfl, -, -⟩, hbw4⟩ := hT
  simp only [Option.isSome_none]
  have RAw4 : Hid (w4.heap[gr]? = some (.cells (S.v8 A) 23 (0, 0))) := (hbw4.block _ (block_lt_of_row RAQw4.out)).trans RAQw4.out
  have REw4 : Hid (w4.heap[gs]? = some (.cells (S.v8 E) 23 (0, 0))) := (hbw4.block _ (block_lt_of_row REQw4.out)).trans REQw4.out
  have Bw4 := hide (BQ.out.trans (hbw4.mono BQ.out.size))
  clear hbw4 SA SB BQ HP HQ RAQw4 REQw4 RAw3 REw3 Bw3
  obtain ⟨Pw5, hPw5⟩ : ∃ YQ, YQ = w4.alloc (.cells #[.int .u8 97] 5 (1, 2)) := ⟨_, rfl⟩
  have mA := mark_new w4 97 97 (1, 2) rfl
  rw [← hPw5] at mA
  have SA := hide mA.2
  have BQ := hide (Bw4.out.trans (mA.1.mono Bw4.out.size))
  have HP := hide hPw5
  have RAPw5 : Hid (Pw5.heap[gr]? = some (.cells (S.v8 A) 23 (0, 0))) := (mA.1.block _ (block_lt_of_row RAw4.out)).trans RAw4.out
  have REPw5 : Hid (Pw5.heap[gs]? = some (.cells (S.v8 E) 23 (0, 0))) := (mA.1.block _ (block_lt_of_row REw4.out)).trans REw4.out
  have RZ := RAPw5
  rw [HP.out] at RZ
  clear mA hPw5
  go_wp2_with (with_reducible refine at_op { dst := some 45, op := Op.load 23 (Operand.tmp 1), type := 23, pos := "law.go:38", after := #[{ on := 4, ground := Ground.guard }], guard := some (4, false) } ?_; refine load_dig_when rfl (.tmp 1) rfl gr rfl A RZ.out LA.out ?_)
  rw [← HP.out]
  refine (leafv_lit 32 _ _ [97] 0 0 0 0 rfl rfl [] A LA.out Pw5 (by omega) (by omega) SA.out (by simp) (DgAt.nil _) (by simp) (HK.out.below BQ.out h0)).mono ?_
  rintro e w5 ⟨rfl, hbw5⟩
  rw [S.vLeaf_out 32 [97] 0 0 [] A (by omega)]
  have RAw5 : Hid (w5.heap[gr]? = some (.cells (S.v8 A) 23 (0, 0))) := (hbw5.block _ (block_lt_of_row RAPw5.out)).trans RAPw5.out
  have REw5 : Hid (w5.heap[gs]? = some (.cells (S.v8 E) 23 (0, 0))) := (hbw5.block _ (block_lt_of_row REPw5.out)).trans REPw5.out
  have Bw5 := hide (BQ.out.trans (hbw5.mono BQ.out.size))
  clear hbw5 SA BQ HP RZ RAPw5 REPw5 RAw4 REw4 Bw4
  obtain ⟨Pw6, hPw6⟩ : ∃ YQ, YQ = w5.alloc (.cells #[.int .u8 97] 5 (1, 2)) := ⟨_, rfl⟩
  have mA := mark_new w5 97 97 (1, 2) rfl
  rw [← hPw6] at mA
  have SA := hide mA.2
  have BQ := hide (Bw5.out.trans (mA.1.mono Bw5.out.size))
  have HP := hide hPw6
  have RAPw6 : Hid (Pw6.heap[gr]? = some (.cells (S.v8 A) 23 (0, 0))) := (mA.1.block _ (block_lt_of_row RAw5.out)).trans RAw5.out
  have REPw6 : Hid (Pw6.heap[gs]? = some (.cells (S.v8 E) 23 (0, 0))) := (mA.1.block _ (block_lt_of_row REw5.out)).trans REw5.out
  have RZ := RAPw6
  rw [HP.out] at RZ
  clear mA hPw6
  go_wp2_with (with_reducible refine at_op { dst := some 51, op := Op.load 23 (Operand.tmp 1), type := 23, pos := "law.go:38", after := #[{ on := 10, ground := Ground.guard }], guard := some (10, false) } ?_; refine load_dig_when rfl (.tmp 1) rfl gr rfl A RZ.out LA.out ?_)
  rw [← HP.out]
  refine (leafv_lit 32 _ _ [97] 1 1 1 1 rfl rfl [] A LA.out Pw6 (by omega) (by omega) SA.out (by simp) (DgAt.nil _) (by simp) (HK.out.below BQ.out h0)).mono ?_
  rintro e w6 ⟨rfl, hbw6⟩
  rw [S.vLeaf_out 32 [97] 1 1 [] A (by omega)]
  have RAw6 : Hid (w6.heap[gr]? = some (.cells (S.v8 A) 23 (0, 0))) := (hbw6.block _ (block_lt_of_row RAPw6.out)).trans RAPw6.out
  have REw6 : Hid (w6.heap[gs]? = some (.cells (S.v8 E) 23 (0, 0))) := (hbw6.block _ (block_lt_of_row REPw6.out)).trans REPw6.out
  have Bw6 := hide (BQ.out.trans (hbw6.mono BQ.out.size))
  clear hbw6 SA BQ HP RZ RAPw6 REPw6 RAw5 REw5 Bw5
  go_wp2_with (first | (with_reducible refine at_op { dst := some 55, op := Op.load 23 (Operand.tmp 1), type := 23, pos := "law.go:38", after := #[{ on := 16, ground := Ground.guard }], guard := some (16, false) } ?_; refine load_dig_when rfl (.tmp 1) rfl gr rfl A RAw6.out LA.out ?_) | (with_reducible refine at_op { dst := some 56, op := Op.load 23 (Operand.tmp 2), type := 23, pos := "law.go:38", after := #[{ on := 16, ground := Ground.guard }], guard := some (16, false) } ?_; refine load_dig_when rfl (.tmp 2) rfl gs rfl E REw6.out LE.out ?_))
  refine (prefix_lit 32 _ 2 2 2 2 rfl rfl A E LA.out LE.out [] w6 (by omega) (by omega) (DgAt.nil _) (fun ao n c e => by simp only [Value.slice.injEq] at e; omega) (HK.out.below Bw6.out h0)).mono ?_
  rintro e w7 ⟨rfl, hbw7⟩
  rw [S.vPre_same 32 2 (by omega) A E, show decide (S.cut A (S.cw 32) = S.cut E (S.cw 32)) = false by rw [EA.out, EE.out, S.cut_whole, S.cut_whole]; exact decide_eq_false S.leaf32_ab]
  have RAw7 : Hid (w7.heap[gr]? = some (.cells (S.v8 A) 23 (0, 0))) := (hbw7.block _ (block_lt_of_row RAw6.out)).trans RAw6.out
  have REw7 : Hid (w7.heap[gs]? = some (.cells (S.v8 E) 23 (0, 0))) := (hbw7.block _ (block_lt_of_row REw6.out)).trans REw6.out
  have Bw7 := hide (Bw6.out.trans (hbw7.mono Bw6.out.size))
  clear hbw7 RAw6 REw6 Bw6
  go_wp2_with (first | (with_reducible refine at_op { dst := some 60, op := Op.load 23 (Operand.tmp 1), type := 23, pos := "law.go:38", after := #[{ on := 21, ground := Ground.guard }], guard := some (21, false) } ?_; refine load_dig_when rfl (.tmp 1) rfl gr rfl A RAw7.out LA.out ?_) | (with_reducible refine at_op { dst := some 61, op := Op.load 23 (Operand.tmp 1), type := 23, pos := "law.go:38", after := #[{ on := 21, ground := Ground.guard }], guard := some (21, false) } ?_; refine load_dig_when rfl (.tmp 1) rfl gr rfl A RAw7.out LA.out ?_))
  refine (prefix_lit 32 _ 2 1 2 1 rfl rfl A A LA.out LA.out [] w7 (by omega) (by omega) (DgAt.nil _) (fun ao n c e => by simp only [Value.slice.injEq] at e; omega) (HK.out.below Bw7.out h0)).mono ?_
  rintro e w8 ⟨rfl, hbw8⟩
  rw [S.vPre_over 32 2 1 A A [] (by omega)]
  have RAw8 : Hid (w8.heap[gr]? = some (.cells (S.v8 A) 23 (0, 0))) := (hbw8.block _ (block_lt_of_row RAw7.out)).trans RAw7.out
  have REw8 : Hid (w8.heap[gs]? = some (.cells (S.v8 E) 23 (0, 0))) := (hbw8.block _ (block_lt_of_row REw7.out)).trans REw7.out
  have Bw8 := hide (Bw7.out.trans (hbw8.mono Bw7.out.size))
  clear hbw8 RAw7 REw7 Bw7
  go_wp2_with (first | (with_reducible refine at_op { dst := some 65, op := Op.load 23 (Operand.tmp 1), type := 23, pos := "law.go:38", after := #[{ on := 26, ground := Ground.guard }], guard := some (26, false) } ?_; refine load_dig_when rfl (.tmp 1) rfl gr rfl A RAw8.out LA.out ?_) | (with_reducible refine at_op { dst := some 66, op := Op.load 23 (Operand.tmp 2), type := 23, pos := "law.go:38", after := #[{ on := 26, ground := Ground.guard }], guard := some (26, false) } ?_; refine load_dig_when rfl (.tmp 2) rfl gs rfl E REw8.out LE.out ?_))
  refine (prefix_lit 32 _ 1 2 1 2 rfl rfl A E LA.out LE.out [] w8 (by omega) (by omega) (DgAt.nil _) (fun ao n c e => by simp only [Value.slice.injEq] at e; omega) (HK.out.below Bw8.out h0)).mono ?_
  rintro e w9 ⟨rfl, hbw9⟩
  rw [S.vPre_nil 32 1 2 (by omega) A E]
  have RAw9 : Hid (w9.heap[gr]? = some (.cells (S.v8 A) 23 (0, 0))) := (hbw9.block _ (block_lt_of_row RAw8.out)).trans RAw8.out
  have REw9 : Hid (w9.heap[gs]? = some (.cells (S.v8 E) 23 (0, 0))) := (hbw9.block _ (block_lt_of_row REw8.out)).trans REw8.out
  have Bw9 := hide (Bw8.out.trans (hbw9.mono Bw8.out.size))
  clear hbw9 RAw8 REw8 Bw8
  go_wp2_with fail
  clear kc
  go_loopg [9] 9 (fun gk s9 wr => ∃ i : Nat, i + gk = 9 ∧ 0 < gk ∧ s9 = .int .i64 (i : Int) ∧ Hid (Below w.heap.size w wr))
  case atStart => exact ⟨0, by omega, by omega, rfl, Bw9⟩
  case round =>
    clear Bw9
    obtain ⟨i, hi, hg, rfl, hb⟩ := hrel
    have q1 : (i : Int) < 256 := by omega
    have q2 : IntKind.i64.wrap ((i : Int) + 1) = (i : Int) + 1 := by rw [IntKind.wrap_i64]; omega
    obtain ⟨xi, hxi⟩ : ∃ y, y = UInt8.ofNat i := ⟨_, rfl⟩
    have EI := hide (show (i : Int) = (xi.toNat : Int) by rw [hxi, ← byte_cast]; omega)
    have EXI := hide hxi
    clear hxi
    go_wp2_with fail
    obtain ⟨gI, hgI⟩ : ∃ g, g = gk := ⟨_, rfl⟩
    have HGI := hide hgI
    clear hgI
    go_loopg [10] (i + 1) (fun g2 s10 wz => ∃ k : Nat, k + g2 = i + 1 ∧ 0 < g2 ∧ s10 = .int .i64 (k : Int) ∧ (i = 8 → k ≤ 1) ∧ Hid (Below w.heap.size w wz))
    case atStart => exact ⟨0, by omega, by omega, rfl, by omega, hb⟩
    case round =>
      clear hb
      obtain ⟨k, hk, hg2, rfl, hk8, hb⟩ := hrel
      by_cases hki : k < i
      · have q3 : (k : Int) < (i : Int) := by omega
        have q4 : IntKind.i64.wrap ((k : Int) + 1) = (k : Int) + 1 := by rw [IntKind.wrap_i64]; omega
        obtain ⟨xk, hxk⟩ : ∃ y, y = UInt8.ofNat k := ⟨_, rfl⟩
        have EK := hide (show (k : Int) = (xk.toNat : Int) by rw [hxk, ← byte_cast]; omega)
        have EXK := hide hxk
        clear hxk
        have MEET := hide (S.leaf1_meets i k (by omega) hki)
        rw [← EXI.out, ← EXK.out] at MEET
        go_wp2_with fail
        obtain ⟨U1, hU1⟩ : ∃ YQ, YQ = wr.alloc (.cells #[.int .u8 (i : Int)] 5) := ⟨_, rfl⟩
        have m1 := one_new wr xi i EI.out
        rw [← hU1] at m1 ⊢
        have S1 := hide m1.2
        have B1 := hide (hb.out.trans (m1.1.mono hb.out.size))
        clear hU1 m1
        refine (leaf_any 1 _ [xi] U1 S1.out (by simp) (HK.out.below B1.out h0)).mono ?_
        rintro e u2 ⟨rfl, b2⟩
        obtain ⟨D1, hD1⟩ : ∃ D, D = S.leaf 1 [xi] := ⟨_, rfl⟩
        rw [← hD1] at MEET ⊢
        have LD1 := hide (show D1.length = 32 by rw [hD1, S.leaf_length])
        have ED1 := hide hD1
        have B2 := hide (B1.out.trans (b2.mono B1.out.size))
        clear hD1 b2 S1 B1
        go_wp2_with fail
        obtain ⟨U2, hU2⟩ : ∃ YQ, YQ = u2.alloc (.cells #[.int .u8 (k : Int)] 5) := ⟨_, rfl⟩
        have m2 := one_new u2 xk k EK.out
        rw [← hU2] at m2 ⊢
        have S2 := hide m2.2
        have B3 := hide (B2.out.trans (m2.1.mono B2.out.size))
        clear hU2 m2 B2
        refine (leaf_any 1 _ [xk] U2 S2.out (by simp) (HK.out.below B3.out h0)).mono ?_
        rintro e u3 ⟨rfl, b3⟩
        obtain ⟨D2, hD2⟩ : ∃ D, D = S.leaf 1 [xk] := ⟨_, rfl⟩
        rw [← hD2] at MEET ⊢
        have LD2 := hide (show D2.length = 32 by rw [hD2, S.leaf_length])
        have ED2 := hide hD2
        have B4 := hide (B3.out.trans (b3.mono B3.out.size))
        clear hD2 b3 S2 B3
        by_cases hm : i = 8 ∧ k = 1
        · have hdd : D1 = D2 := MEET.out.2 hm
          have heqv : ∀ w, (Op.equalIn 10000 23 (.agg (S.v8 D1)) (.agg (S.v8 D2))).run Tryd.prog w = .ok true w := fun w => equal_dig D1 D2 LD1.out LD2.out true (by rw [hdd]; simp) w
          have hne : ([xi] : List UInt8) ≠ [xk] := by
            rw [EXI.out, EXK.out, hm.1, hm.2]; decide
          have HVC := hide (show S.vColl 1 [xi] [xk] 0 1 [] [] = some ([0, xi], [0, xk]) by rw [S.vColl_only 1 [xi] [xk] hne, if_pos (by rw [← ED1.out, ← ED2.out]; exact hdd)])
          clear hdd hm MEET hne
          go_wp2_with fail
          clear heqv
          obtain ⟨U4, hU4⟩ : ∃ YQ, YQ = u3.alloc (.cells #[.int .u8 (i : Int)] 5) := ⟨_, rfl⟩
          have m4 := one_new u3 xi i EI.out
          rw [← hU4] at m4 ⊢
          obtain ⟨U5, hU5⟩ : ∃ YQ, YQ = U4.alloc (.cells #[.int .u8 (k : Int)] 5) := ⟨_, rfl⟩
          have m5 := one_new U4 xk k EK.out
          rw [← hU5] at m5 ⊢
          have S4 := hide (m4.2.below m5.1 (Nat.le_refl _))
          have S5 := hide m5.2
          have B5 := hide ((B4.out.trans (m4.1.mono B4.out.size)).trans (m5.1.mono (Nat.le_trans B4.out.size m4.1.size)))
          have s45 : U4.heap.size = u3.heap.size + 1 := by rw [hU4]; simp
          try rw [s45] at S5
          clear hU4 hU5 m4 m5 B4
          refine (collide_lit 1 _ _ _ _ [xi] [xk] 0 1 0 1 rfl rfl [] [] U5 (by omega) S4.out S5.out (by simp) (by simp) (DgAt.nil _) (by simp) (DgAt.nil _) (by simp) (HK.out.below B5.out h0)).mono ?_
          rintro e u6 hT
          rw [HVC.out] at hT
          obtain ⟨⟨xo, xl, xc, yo, yl, yc, rfl, sx, sy⟩, b6⟩ := hT
          have B6 := hide (B5.out.trans (b6.mono B5.out.size))
          obtain ⟨TX, hTX⟩ : ∃ T, T = (⟨([0, xi] : List UInt8).toArray⟩ : ByteArray) := ⟨_, rfl⟩
          obtain ⟨TY, hTY⟩ : ∃ T, T = (⟨([0, xk] : List UInt8).toArray⟩ : ByteArray) := ⟨_, rfl⟩
          have n1 := two_new u6 xi i EI.out
          have n2 := two_new (u6.alloc (.cells #[.int .u8 0, .int .u8 (i : Int)] 5)) xk k EK.out
          have c1 : (convert 25 9 (.slice xo xl xc)).run Tryd.prog u6 = .ok (.string TX) u6 := by rw [hTX]; exact conv_slice sx
          have c2 : (convert 25 9 (.slice (some ⟨u6.heap.size, 0, none⟩) 2 2)).run Tryd.prog (u6.alloc (.cells #[.int .u8 0, .int .u8 (i : Int)] 5)) = .ok (.string TX) (u6.alloc (.cells #[.int .u8 0, .int .u8 (i : Int)] 5)) := by rw [hTX]; exact conv_slice n1.2
          have c3 : (convert 25 9 (.slice yo yl yc)).run Tryd.prog (u6.alloc (.cells #[.int .u8 0, .int .u8 (i : Int)] 5)) = .ok (.string TY) (u6.alloc (.cells #[.int .u8 0, .int .u8 (i : Int)] 5)) := by rw [hTY]; exact conv_slice (sy.below n1.1 (Nat.le_refl _))
          have c4 := conv_slice n2.2
          rw [← hTY] at c4
          have s67 : (u6.alloc (.cells #[.int .u8 0, .int .u8 (i : Int)] 5)).heap.size = u6.heap.size + 1 := by simp
          rw [s67] at c4
          have B7 := hide ((B6.out.trans (n1.1.mono B6.out.size)).trans (n2.1.mono (Nat.le_trans B6.out.size n1.1.size)))
          simp only [Option.isSome_some]
          clear sx sy b6 hTX hTY n1 n2 s67 B5 S4 S5 s45 HVC
          go_wp2_with fail
          generalize hU9 : World.alloc _ _ = U9 at B7 ⊢
          clear c1 c2 c3 c4 hU9
          refine (known9_any U9 (HK.out.below B7.out h0)).mono ?_
          rintro e wk ⟨rfl, bk⟩
          have BK := hide (B7.out.trans (bk.mono B7.out.size))
          clear bk
          go_wp2_with fail
          go_ret
          exact ⟨rfl, BK.out⟩
        · have hdd : ¬ D1 = D2 := fun e => hm (MEET.out.1 e)
          have heqv : ∀ w, (Op.equalIn 10000 23 (.agg (S.v8 D1)) (.agg (S.v8 D2))).run Tryd.prog w = .ok false w := fun w => equal_dig D1 D2 LD1.out LD2.out false (by simp [hdd]) w
          clear hdd MEET
          go_wp2_with fail
          clear heqv
          go_roundg (gk - 1)
          case measure => omega
          case rel => exact ⟨k + 1, by omega, by omega, by first | rfl | simp, by omega, B4⟩
      · have q3 : ¬ (k : Int) < (i : Int) := by omega
        go_wp2_with fail
        go_roundg (gI - 1)
        case measure => have := HGI.out; omega
        case rel => exact ⟨i + 1, by have := HGI.out; omega, by have := HGI.out; omega, by first | rfl | simp, hb⟩
end Go.Proofs.YtlbggkmblkhjoaaDoor
