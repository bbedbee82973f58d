/- The root of a range. -/
import Derived.Test.YtkljajfgdelfgaaDoorFh
import Derived.Test.YtkljajfgdelfgaaDoorFi
import Derived.Test.YtkljajfgdelfgaaDoorRg
namespace Go.Proofs.YtkljajfgdelfgaaDoor
open Go.RowKit
open Go.Shelf
namespace C
theorem fold_snoc {α : Type} (nd : α → α → α) (z : α) : ∀ (xs : List α) (l : α), fold nd z (xs ++ [l]) = xs.reverse.foldl (fun d x => nd x d) l := by
  intro xs
  induction xs with
  | nil => intro l; rfl
  | cons x xs ih =>
    intro l
    rw [List.reverse_cons, List.foldl_append, List.foldl_cons, List.foldl_nil, ← ih l]
    cases hx : xs ++ [l] with
    | nil => simp at hx
    | cons g t => rw [List.cons_append, hx, fold]
end C
theorem S.bks_all (hs : List (List UInt8)) : (S.bks hs hs.length).map (·.2) = hs.reverse := by
  apply List.ext_getElem?
  intro i
  rw [S.bks, List.map_map]
  by_cases h : i < hs.length
  · rw [List.getElem?_map, List.getElem?_range h, List.getElem?_reverse h]
    simp only [Option.map_some, Function.comp, S.bk]
    rw [List.getD_eq_getElem?_getD, List.getElem?_eq_getElem (by omega)]; rfl
  · rw [List.getElem?_eq_none (by simp; omega), List.getElem?_eq_none (by simp; omega)]
theorem Chg.putObj {p : Nat → Prop} {w W : World} {l : Nat} {o' : Obj} (h : Chg p w W) (hl : w.heap.size ≤ l) : Chg p w (W.putObj l o') := by
  refine ⟨h.os, h.tape, h.output, by rw [World.putObj_size]; exact h.size, fun k hk hn => ?_⟩
  rw [World.putObj_heap_other (by omega)]
  exact h.block k hk hn
theorem cells_putObj {W : World} {l g : Nat} {o o' : Obj} {cs : Array Value} {t : TypeId} {fr : Nat × Nat} (hg : W.heap[g]? = some (.cells cs t fr)) (hl : W.heap[l]? = some o) (hn : o.isCells = false) : (W.putObj l o').heap[g]? = some (.cells cs t fr) := by
  by_cases e : g = l
  · subst e; rw [hg] at hl; injection hl with hl; rw [← hl] at hn; simp [Obj.isCells] at hn
  · rw [World.putObj_heap_other e]; exact hg
theorem below_putObj {n : Nat} {w W : World} {l : Nat} {o' : Obj} (h : Below n w W) (hl : n ≤ l) : Below n w (W.putObj l o') :=
  ⟨h.os, h.tape, h.output, by rw [World.putObj_size]; exact h.size, fun k hk => by rw [World.putObj_heap_other (by omega)]; exact h.block k hk⟩
theorem bodyPostM_ret {n : Nat} {fn : Func} {a : Act} {w : World} {v : Value} {R : Ending → World → Prop} (hr : (results fn a.tmps).run Tryd.prog w = .ok v w) (hd : a.defers = []) (h : R (.returned v) w) : bodyPostM Fence.wide n Tryd.prog fn R .ret a w := by
  show LeavesInM Fence.wide n Tryd.prog fn a.tmps R a.defers .returning w
  rw [hd]
  exact ⟨v, hr, h⟩
set_option maxHeartbeats 20000000 in
set_option maxRecDepth 10000 in
theorem rootc_any (a : Int) (b e : Nat) (u : Value) (hs : List (List UInt8)) (w : World) (hb : b < 18446744073709551616) (he : e < 18446744073709551616) (hu : DgAt w u hs) (hcap : ∀ ao n c, u = .slice ao n c → n ≤ c) (hK : KAt w) :
   Calls Tryd.prog 9 #[.int .i64 a, .agg #[.int .u64 (b : Int), .int .u64 (e : Int), u]] w fun r w' => r = .returned (.tuple #[.agg (S.v8 (C.rootA a b e hs).1), .int .i64 ((C.rootA a b e hs).2 : Int)]) ∧ Below w.heap.size w w' := by
  obtain ⟨uo, uc, rfl⟩ := hu.form
  have hcap := hcap _ _ _ rfl
  obtain ⟨A, hA⟩ : ∃ A, A = C.rootA a b e hs := ⟨_, rfl⟩
  rw [← hA]
  have HA := hide hA
  obtain ⟨N, hN⟩ : ∃ N, N = hs.length := ⟨_, rfl⟩
  have hmax : hs.length ≤ 1000000 := by obtain ⟨_, _, _, h, _⟩ := hu; exact h
  have h32 : ∀ d ∈ hs, d.length = 32 := by obtain ⟨_, _, _, _, h, _⟩ := hu; exact h
  have HN := hide hN
  have HU := hide hu
  have H32 := hide h32
  have HK := hide hK
  have h0 := hK.pos
  rw [← hN] at HU hcap hmax ⊢
  clear hu hK hA hN h32
  refine (callsIn_wide (n := 3)).1 ?_
  refine callsIn_of_wp_marks Tryd.func9 rfl trivial ?_ rfl
  refine wpIn_wide.2 ?_
  simp only [Tryd.ntmps9, List.size_toArray, List.length_cons, List.length_nil, Nat.reduceAdd, Nat.reduceSub, Array.replicate_succ, Array.replicate_zero, List.push_toArray, List.append_toArray, List.nil_append, List.cons_append]
  go_upto_region 1 with (with_reducible refine at_op { dst := some 4, op := Op.alloc 23, type := 0, pos := "compact.go:55", after := #[], guard := none } ?_; refine wpList_alloc_known rfl 23 rfl _ _ (alloc31 _) ?_)
  generalize hW0 : w.alloc _ = W0
  generalize hW1 : W0.alloc _ = W1
  generalize hW2 : W1.alloc _ = W2
  have B0 : Below w.heap.size w W0 := by rw [← hW0]; exact (Below.refl _ _).alloc (Nat.le_refl _) _
  have s0 : W0.heap.size = w.heap.size + 1 := by rw [← hW0]; simp
  have r0 : W0.heap[w.heap.size]? = some (.cells #[.int .i64 a] 3 (0, 0)) := by rw [← hW0]; exact heap_alloc_new _ _
  have B1 : Below W0.heap.size W0 W1 := by rw [← hW1]; exact (Below.refl _ _).alloc (Nat.le_refl _) _
  have s1 : W1.heap.size = w.heap.size + 2 := by rw [← hW1]; simp [s0]
  have r1 : W1.heap[w.heap.size + 1]? = some (.cells #[.int .u64 (b : Int), .int .u64 (e : Int), .slice uo N uc] 30 (0, 0)) := by rw [← hW1, ← s0]; exact heap_alloc_new _ _
  have B2 : Below W1.heap.size W1 W2 := by rw [← hW2]; exact (Below.refl _ _).alloc (Nat.le_refl _) _
  have s2 : W2.heap.size = w.heap.size + 3 := by rw [← hW2]; simp [s1]
  have r2 : W2.heap[w.heap.size + 2]? = some (.cells (S.v8 (S.zeros 32)) 23 (0, 0)) := by rw [← hW2, ← s1]; exact heap_alloc_new _ _
  have BB : Hid (Below w.heap.size w W2) := ((B0.trans (B1.mono (by omega))).trans (B2.mono (by omega)))
  have Q0 : Hid (W2.heap[w.heap.size]? = some (.cells #[.int .i64 a] 3 (0, 0))) := ((B2.block _ (by omega)).trans ((B1.block _ (by omega)).trans r0))
  have Q1 : Hid (W2.heap[w.heap.size + 1]? = some (.cells #[.int .u64 (b : Int), .int .u64 (e : Int), .slice uo N uc] 30 (0, 0))) := ((B2.block _ (by omega)).trans r1)
  have Q2 : Hid (W2.heap[w.heap.size + 2]? = some (.cells (S.v8 (S.zeros 32)) 23 (0, 0))) := r2
  clear hW0 B0 s0 r0 hW1 B1 s1 r1 hW2 B2 s2 r2
  obtain ⟨c0, c1, c2⟩ := cells3 Q1.out
  go_wp2_with fail
  refine (right_any b e N uc uo W2 hb he).mono ?_
  rintro r W3 ⟨rfl, hb3⟩
  have R0 : Hid (W3.heap[w.heap.size]? = some (.cells #[.int .i64 a] 3 (0, 0))) := (hb3.block _ (block_lt_of_row Q0.out)).trans Q0.out
  have R1 : Hid (W3.heap[w.heap.size + 1]? = some (.cells #[.int .u64 (b : Int), .int .u64 (e : Int), .slice uo N uc] 30 (0, 0))) := (hb3.block _ (block_lt_of_row Q1.out)).trans Q1.out
  have R2 : Hid (W3.heap[w.heap.size + 2]? = some (.cells (S.v8 (S.zeros 32)) 23 (0, 0))) := (hb3.block _ (block_lt_of_row Q2.out)).trans Q2.out
  have B3 := hide (BB.out.trans (hb3.mono BB.out.size))
  clear hb3 Q0 Q1 Q2 BB c0 c1 c2
  obtain ⟨c0, c1, c2⟩ := cells3 R1.out
  have ca := cells1 R0.out
  have hbu : ∀ W : World, (Instr.build 23 #[]).run Tryd.prog W = .ok (.agg (S.v8 (S.zeros 32))) W := fun W => congrFun zero_dig W
  obtain ⟨YZ, hsz, rz, cz, sz⟩ := store_dig R2.out (S.zeros_length 32) (S.zeros_length 32)
  have RZ := hide rz
  have BZ := hide (B3.out.trans (cz.below w.heap.size B3.out.size (fun j hj e => by omega)))
  clear rz cz sz
  by_cases hr : S.right b e N = true
  · obtain ⟨t1, t2, t3⟩ := S.right_of hr
    rw [hr]
    by_cases hb0 : b = 0
    · subst hb0
      by_cases he0 : e = 0
      · subst he0
        have hA2 := hide (show A = (S.root a [], 0) by rw [HA.out, C.rootA, if_pos (by rw [← HN.out]; exact hr), if_pos rfl, if_pos rfl])
        clear hr t1 t2 t3
        go_wp2_with fail
        refine (root_any a (.slice none 0 0) [] W3 (BsAt.nil _) (by simp) (fun x hx => by simp at hx) (HK.out.below B3.out h0)).mono ?_
        rintro r W4 ⟨rfl, hb4⟩
        obtain ⟨D, hD⟩ : ∃ D, D = S.root a [] := ⟨_, rfl⟩
        have LD := hide (show D.length = 32 by rw [hD]; exact S.root_length _ _)
        rw [← hD]
        rw [← hD] at hA2
        obtain ⟨YF, hsf, rf, cf, sf⟩ := store_dig ((hb4.block _ (block_lt_of_row R2.out)).trans R2.out) (S.zeros_length 32) LD.out
        have RF := hide rf
        have B4 := hide (B3.out.trans (hb4.mono B3.out.size))
        have BF := hide (B4.out.trans (cf.below w.heap.size B4.out.size (fun j hj e => by omega)))
        clear rf cf sf hb4 hD
        go_wp2_with (with_reducible refine at_op { dst := none, op := Op.store 23 (Operand.tmp 4) (Operand.tmp 25), type := 0, pos := "compact.go:62", after := #[{ on := 1, ground := Ground.data }, { on := 1, ground := Ground.chain }, { on := 0, ground := Ground.phase }, { on := 1, ground := Ground.phase }], guard := none } ?_; refine wpList_store_as rfl 23 (.tmp 4) (.tmp 25) rfl (.pointer (some ⟨w.heap.size + 1 + 1, 0, none⟩)) (.agg (S.v8 D)) rfl rfl YF hsf ?_)
        exact bodyPostM_ret (v := .tuple #[.agg (S.v8 D), .int .i64 0]) (results_rt Tryd.results9 _ _ (w.heap.size + 2) _ rfl (var23 RF.out LD.out)) rfl ⟨by rw [hA2.out]; rfl, BF.out⟩
      · have hN1 : 0 < N := by
          rw [t3, C.blocks_cons 0 e (by omega) (by omega)]; simp
        have hA2 := hide (show A = (C.fold (S.node a) [] hs, 0) by rw [HA.out, C.rootA, if_pos (by rw [← HN.out]; exact hr), if_pos rfl, if_neg he0])
        have q1 : ((e : Int) == 0) = false := by simp; omega
        have q1' : ¬ (e : Int) = 0 := by omega
        obtain ⟨m, hm⟩ : ∃ m, m = N - 1 := ⟨_, rfl⟩
        have qm : IntKind.i64.wrap ((N : Int) - 1) = (m : Int) := by rw [IntKind.wrap_i64]; omega
        have q2 : (0 : Int) ≤ (m : Int) := by omega
        have q3 : (m : Int) < (N : Int) := by omega
        have q4 : (m : Int) ≤ (uc : Int) := by omega
        obtain ⟨gu, ou, cu, eu, hgu, hru, hpl⟩ := dg_at HU.out m (by rw [← HN.out]; omega)
        simp only [Value.slice.injEq] at eu
        obtain ⟨rfl, -, rfl⟩ := eu
        obtain ⟨L, hL⟩ : ∃ L, L = hs.getD m [] := ⟨_, rfl⟩
        rw [← hL] at hru hpl
        have LL := hide hpl
        have HHS := hide (show hs = hs.take m ++ [L] by
          have h1 := List.take_append_drop m hs
          rw [drop_cons m (by rw [← HN.out]; omega), ← hL, List.drop_eq_nil_of_le (by rw [← HN.out]; omega)] at h1
          exact h1.symm)
        have hld := load_dmid (below_range B3.out hgu hru) hpl
        obtain ⟨A7, Y7, hal, hst, ry, by_, sy⟩ := lay_dig W3 L hpl
        obtain ⟨g7, hg7⟩ : ∃ g, g = W3.heap.size := ⟨_, rfl⟩
        rw [← hg7] at hal hst ry
        have RG := hide ry
        have P0 : Hid (Y7.heap[w.heap.size]? = some (.cells #[.int .i64 a] 3 (0, 0))) := (by_.block _ (block_lt_of_row R0.out)).trans R0.out
        have P1 : Hid (Y7.heap[w.heap.size + 1]? = some (.cells #[.int .u64 ((0 : Nat) : Int), .int .u64 (e : Int), .slice (some ⟨gu, ou, none⟩) N uc] 30 (0, 0))) := (by_.block _ (block_lt_of_row R1.out)).trans R1.out
        have P2 : Hid (Y7.heap[w.heap.size + 2]? = some (.cells (S.v8 (S.zeros 32)) 23 (0, 0))) := (by_.block _ (block_lt_of_row R2.out)).trans R2.out
        have B7 := hide (B3.out.trans (by_.mono B3.out.size))
        have G7 := hide (show w.heap.size + 2 < g7 by rw [hg7]; exact block_lt_of_row R2.out)
        have GU := hide hgu
        obtain ⟨VL, hVL⟩ : ∃ V, V = Value.agg (S.v8 L) := ⟨_, rfl⟩
        rw [← hVL] at hld hst
        obtain ⟨e0, e1, e2⟩ := cells3 P1.out
        have hml : ((hs.take m).length) = m := by rw [List.length_take, ← HN.out]; omega
        have HML := hide hml
        have HUT := hide (HU.out.take m (by omega))
        clear hr t1 t2 t3 he0 hm hg7 ry by_ sy hVL hL hru hpl hgu R0 R1 R2 hsz RZ BZ hml HU
        go_wp2_with (first | (with_reducible refine at_op { dst := some 34, op := Op.load 23 (Operand.tmp 33), type := 23, pos := "compact.go:65", after := #[{ on := 3, ground := Ground.data }], guard := none } ?_; refine wpList_load_as rfl 23 (.tmp 33) rfl (.pointer (some ⟨gu, ou + m * 32, none⟩)) rfl VL hld ?_) | (with_reducible refine at_op { dst := some 7, op := Op.alloc 23, type := 0, pos := "compact.go:65", after := #[], guard := none } ?_; refine wpList_alloc_known rfl 23 rfl (.pointer (some ⟨g7, 0, none⟩)) A7 hal ?_) | (with_reducible refine at_op { dst := none, op := Op.store 23 (Operand.tmp 7) (Operand.tmp 34), type := 0, pos := "compact.go:65", after := #[{ on := 5, ground := Ground.data }, { on := 4, ground := Ground.data }, { on := 0, ground := Ground.phase }, { on := 1, ground := Ground.phase }, { on := 2, ground := Ground.phase }, { on := 3, ground := Ground.phase }, { on := 4, ground := Ground.phase }, { on := 5, ground := Ground.phase }], guard := none } ?_; refine wpList_store_as rfl 23 (.tmp 7) (.tmp 34) rfl (.pointer (some ⟨g7, 0, none⟩)) VL rfl rfl Y7 hst ?_))
        refine (backward_any _ _ _ _).mono ?_
        rintro r W9 ⟨rfl, hW9⟩
        have b9 : Below Y7.heap.size Y7 W9 := by rw [hW9]; exact (Below.refl _ _).alloc (Nat.le_refl _) _
        obtain ⟨gs, hgs⟩ : ∃ g, g = Y7.heap.size := ⟨_, rfl⟩
        rw [← hgs]
        have S9 : Hid (W9.heap[gs]? = some (.cells #[.slice (some ⟨gu, ou, none⟩) m uc] 28 (0, 0))) := by rw [hW9, hgs]; exact heap_alloc_new _ _
        have G9 : Hid (W9.heap[g7]? = some (.cells (S.v8 L) 23 (0, 0))) := (b9.block _ (block_lt_of_row RG.out)).trans RG.out
        have A9 : Hid (W9.heap[w.heap.size]? = some (.cells #[.int .i64 a] 3 (0, 0))) := (b9.block _ (block_lt_of_row P0.out)).trans P0.out
        have D9 : Hid (W9.heap[w.heap.size + 2]? = some (.cells (S.v8 (S.zeros 32)) 23 (0, 0))) := (b9.block _ (block_lt_of_row P2.out)).trans P2.out
        have B9 := hide (B7.out.trans (b9.mono B7.out.size))
        have GS := hide (show g7 < gs by rw [hgs]; exact block_lt_of_row RG.out)
        have HU9 := hide (HUT.out.below B9.out)
        clear hW9 b9 hgs P0 P1 P2 RG B7 HUT e0 e1 e2
        go_wp2_with fail
        obtain ⟨ks, hks⟩ : ∃ ks, ks = hs.take m := ⟨_, rfl⟩
        have K32 := hide (show ∀ d ∈ ks, d.length = 32 by rw [hks]; exact fun d hd => H32.out d (List.mem_of_mem_take hd))
        rw [← hks] at HU9 HHS HML
        clear hks
        have hseq := back_seq 1 (by omega) gs (.slice (some ⟨gu, ou, none⟩) m uc) ks (fun k => k = g7) W9 S9.out HU9.out (by have := GS.out; omega) (fun a' n' c' ea => by simp only [Value.slice.injEq, Option.some.injEq] at ea; rw [← ea.1]; have := GU.out; have := G7.out; show ¬ gu = g7; omega)
        have L32 : Hid (∀ pre : List (Int × List UInt8), (pre.foldl (fun d x => S.node a x.2 d) L).length = 32) := fun pre => by
          rcases List.eq_nil_or_concat pre with rfl | ⟨q, y, rfl⟩
          · exact LL.out
          · rw [List.concat_eq_append, List.foldl_append, List.foldl_cons, List.foldl_nil]; exact S.node_length _ _ _
        have B32 : Hid (∀ k, k < ks.length → (S.bk ks k).2.length = 32) := fun k hk => by
          show (ks.getD (ks.length - 1 - k) []).length = 32
          rw [List.getD_eq_getElem?_getD, List.getElem?_eq_getElem (by omega)]
          exact K32.out _ (List.getElem_mem _)
        have HSEQ := hide hseq
        clear hseq
        refine (wpIn_wide (n := 2)).1 (wpIn_rangeBox (n := 2) (w0 := W9) (gf := 50) (lb := #[.pointer (some ⟨gs, 0, none⟩)]) rfl (enters_of Tryd.func50 (by kernel_rfl) rfl) HSEQ.out (Below.refl _ _) (fun _ => rfl) (fun k hk => by rw [hk]; exact block_lt_of_row G9.out)
          (fun pre W => W.heap[g7]? = some (.cells (S.v8 (pre.foldl (fun d x => S.node a x.2 d) L)) 23 (0, 0)) ∧ Chg (fun k => k = g7) W9 W) (fun _ _ _ => False)
          (fun s A B h hb => ⟨(hb.block _ (block_lt_of_row h.1)).trans h.1, h.2.then hb⟩) (fun c s A B h hb => h) (fun s A l o o' h hl ho hc => ⟨cells_putObj h.1 ho hc, h.2.putObj hl⟩) (fun c s A l o o' h hl ho hc => h) (fun pre s A l o o' h hl ho hc => h) (fun pre s A B h hb => h) ⟨G9.out, Chg.refl _ _⟩
          (fun x a' W => ∃ gx, W.heap[gx]? = some (.cells (S.v8 x.2) 23 (0, 0)) ∧ a' = { tmps := #[.int .i64 a, .agg #[.int .u64 0, .int .u64 (e : Int), .slice (some ⟨gu, ou, none⟩) N uc], .pointer (some ⟨w.heap.size, 0, none⟩), .pointer (some ⟨w.heap.size + 1, 0, none⟩), .pointer (some ⟨w.heap.size + 1 + 1, 0, none⟩), .int .i64 0, .int .i64 (m : Int), .pointer (some ⟨g7, 0, none⟩), undef, .pointer (some ⟨gx, 0, none⟩), .bool false, .agg #[.int .u64 0, .int .u64 (e : Int), .slice (some ⟨gu, ou, none⟩) N uc], .bool true, .bool false, undef, .bool false, .pointer (some ⟨w.heap.size + 1, 0, none⟩), .int .u64 0, .bool false, undef, .bool false, .pointer (some ⟨w.heap.size + 1, 1, none⟩), .int .u64 (e : Int), .bool false, undef, undef, .pointer (some ⟨w.heap.size + 1, 2, none⟩), .slice (some ⟨gu, ou, none⟩) N uc, .int .i64 (N : Int), .int .i64 (m : Int), .pointer (some ⟨w.heap.size + 1, 2, none⟩), .slice (some ⟨gu, ou, none⟩) N uc, .int .i64 (m : Int), .pointer (some ⟨gu, ou + m * 32, none⟩), VL, .pointer (some ⟨w.heap.size + 1, 2, none⟩), .slice (some ⟨gu, ou, none⟩) N uc, .int .i64 (m : Int), .slice (some ⟨gu, ou, none⟩) m uc, .func (.func 50) #[] #[.pointer (some ⟨gs, 0, none⟩)], .int .i64 x.1, .agg (S.v8 x.2), undef, undef, undef, undef, undef], defers := [] })
          (fun x s A l o o' h hl ho hc => by obtain ⟨gx, h1, h2⟩ := h; exact ⟨gx, cells_putObj h1 ho hc, h2⟩) ?assign ?body ?done ?stop)
        case assign =>
          rintro l pre x W K ⟨hI1, hI2⟩ ⟨hp, hx⟩ hK
          have hx32 : x.2.length = 32 := by rw [hx]; exact B32.out _ hp
          clear hx hp
          obtain ⟨A, Y, hal, hst, ry, by_, sy⟩ := lay_dig W x.2 hx32
          have hT : ∀ (T : Array Value), ((#[40, 41] : Array Tmp).zip (encI x)).foldl (fun t (p, v) => t.setIfInBounds p v) T = (T.setIfInBounds 40 (.int .i64 x.1)).setIfInBounds 41 (.agg (S.v8 x.2)) := fun T => by simp [encI]
          refine wpIn_region_lit ?_
          refine inRound_list (fun h => by obtain ⟨_, _, h⟩ := h; exact h) _ _ _ (by simp) ?_
          rw [hT]
          simp only [List.setIfInBounds_toArray, List.set_cons_zero, List.set_cons_succ]
          with_reducible refine at_op { dst := some 9, op := Op.alloc 23, type := 0, pos := "compact.go:66", after := #[], guard := none } ?_; refine wpList_alloc_known rfl 23 rfl (.pointer (some ⟨W.heap.size, 0, none⟩)) A hal ?_
          simp only [Act.put, List.setIfInBounds_toArray, List.set_cons_zero, List.set_cons_succ]
          with_reducible refine at_op { dst := none, op := Op.store 23 (Operand.tmp 9) (Operand.tmp 41), type := 0, pos := "compact.go:66", after := #[{ on := 0, ground := Ground.data }, { on := 0, ground := Ground.phase }], guard := none } ?_; refine wpList_store_as rfl 23 (.tmp 9) (.tmp 41) rfl (.pointer (some ⟨W.heap.size, 0, none⟩)) (.agg (S.v8 x.2)) rfl rfl Y hst ?_
          exact hK _ _ by_ ⟨W.heap.size, ry, rfl⟩
        case body =>
          rintro l pre x a' W ⟨hI1, hI2⟩ ⟨hp, hx⟩ ⟨gx, rx, rfl⟩
          have hx32 : x.2.length = 32 := by rw [hx]; exact B32.out _ hp
          clear hx hp
          refine wpIn_block ?_
          refine wpIn_region_lit ?_
          refine inRound_list (fun h => by obtain ⟨_, _, h⟩ := h; exact h) _ _ _ (by simp) ?_
          have cA := cells1 (hI2.row A9.out (by have := G7.out; omega))
          have hl2 := load_dig rx hx32
          have hl3 := load_dig hI1 (L32.out pre)
          obtain ⟨E, hE⟩ : ∃ E, E = pre.foldl (fun d x => S.node a x.2 d) L := ⟨_, rfl⟩
          have LE := hide (show E.length = 32 by rw [hE]; exact L32.out pre)
          rw [← hE] at hl3 hI1
          have HE := hide hE
          have HI2 := hide hI2
          have HI1 := hide hI1
          have HX := hide hx32
          clear hE hI1 hI2 hx32 rx
          go_wp2_with (first | (with_reducible refine at_op { dst := some 43, op := Op.load 23 (Operand.tmp 9), type := 23, pos := "compact.go:67", after := #[], guard := none } ?_; refine wpList_load_as rfl 23 (.tmp 9) rfl (.pointer (some ⟨gx, 0, none⟩)) rfl (.agg (S.v8 x.2)) hl2 ?_) | (with_reducible refine at_op { dst := some 44, op := Op.load 23 (Operand.tmp 7), type := 23, pos := "compact.go:67", after := #[], guard := none } ?_; refine wpList_load_as rfl 23 (.tmp 7) rfl (.pointer (some ⟨g7, 0, none⟩)) rfl (.agg (S.v8 E)) hl3 ?_))
          refine (node_any a x.2 E HX.out LE.out W (HK.out.below (B9.out.trans (HI2.out.below w.heap.size B9.out.size (fun k hk e => by have := G7.out; omega))) h0)).mono ?_
          rintro r W' ⟨rfl, hb'⟩
          obtain ⟨E2, hE2⟩ : ∃ E2, E2 = S.node a x.2 E := ⟨_, rfl⟩
          have LE2 := hide (show E2.length = 32 by rw [hE2]; exact S.node_length _ _ _)
          rw [← hE2]
          have HE2 := hide hE2
          obtain ⟨YF, hsf, rf, cf, sf⟩ := store_dig ((hb'.block _ (block_lt_of_row HI1.out)).trans HI1.out) LE.out LE2.out
          have CF := hide ((((Chg.refl (fun k => k = g7) W).then hb').trans cf (fun k hk e => e)))
          have RF := hide rf
          clear hE2 hb' rf cf sf
          go_wp2_with (with_reducible refine at_op { dst := none, op := Op.store 23 (Operand.tmp 7) (Operand.tmp 45), type := 0, pos := "compact.go:67", after := #[{ on := 3, ground := Ground.data }, { on := 3, ground := Ground.chain }, { on := 0, ground := Ground.phase }, { on := 1, ground := Ground.phase }, { on := 2, ground := Ground.phase }, { on := 3, ground := Ground.phase }], guard := none } ?_; refine wpList_store_as rfl 23 (.tmp 7) (.tmp 45) rfl (.pointer (some ⟨g7, 0, none⟩)) (.agg (S.v8 E2)) rfl rfl YF hsf ?_)
          exact ⟨CF.out, by rw [List.foldl_append, List.foldl_cons, List.foldl_nil, ← HE.out, ← HE2.out]; exact RF.out, HI2.out.trans CF.out (fun k hk e => e)⟩
        case done =>
          rintro D xs W hD hxs ⟨hI1, hI2⟩ hKD
          have hfin : xs.foldl (fun d x => S.node a x.2 d) L = C.fold (S.node a) [] hs := by
            rw [HHS.out, C.fold_snoc, ← S.bks_all ks, ← hxs, List.foldl_map]
          have hl := L32.out xs
          rw [hfin] at hI1 hl
          obtain ⟨E, hE⟩ : ∃ E, E = C.fold (S.node a) [] hs := ⟨_, rfl⟩
          rw [← hE] at hI1 hl hA2
          have hl3 := load_dig hI1 hl
          obtain ⟨YF, hsf, rf, cf, sf⟩ := store_dig (hI2.row D9.out (by have := G7.out; omega)) (S.zeros_length 32) hl
          have LE := hide hl
          have RF := hide rf
          have B10 := hide (B9.out.trans (hI2.below w.heap.size B9.out.size (fun k hk e => by have := G7.out; omega)))
          have BF := hide (B10.out.trans (cf.below w.heap.size B10.out.size (fun k hk e => by omega)))
          have KD := hide (cf.block D (block_lt_of_row hKD) (by have := block_lt_of_row D9.out; omega) |>.trans hKD)
          have HD := hide (show w.heap.size + 2 < D by have := block_lt_of_row D9.out; omega)
          clear hfin hl hE rf cf sf hI1 hI2 hKD hxs
          go_wp2_with (first | (with_reducible refine at_op { dst := some 46, op := Op.load 23 (Operand.tmp 7), type := 23, pos := "compact.go:69", after := #[], guard := none } ?_; refine wpList_load_as rfl 23 (.tmp 7) rfl (.pointer (some ⟨g7, 0, none⟩)) rfl (.agg (S.v8 E)) hl3 ?_) | (with_reducible refine at_op { dst := none, op := Op.store 23 (Operand.tmp 4) (Operand.tmp 46), type := 0, pos := "compact.go:69", after := #[{ on := 0, ground := Ground.data }, { on := 0, ground := Ground.phase }], guard := none } ?_; refine wpList_store_as rfl 23 (.tmp 4) (.tmp 46) rfl (.pointer (some ⟨w.heap.size + 1 + 1, 0, none⟩)) (.agg (S.v8 E)) rfl rfl YF hsf ?_))
          refine ⟨by simp, .inl ⟨_, _, rfl, run_takeDeferred KD.out, ?_⟩⟩
          exact ⟨.tuple #[.agg (S.v8 E), .int .i64 0], results_rt Tryd.results9 _ _ (w.heap.size + 2) _ rfl (var23 (cells_putObj RF.out KD.out rfl) LE.out), by rw [hA2.out]; rfl, below_putObj BF.out (by have := HD.out; omega)⟩
        case stop =>
          rintro D c pre W _ _ h _
          exact h.elim
    · have hA2 := hide (show A = (S.zeros 32, 25) by rw [HA.out, C.rootA, if_pos (by rw [← HN.out]; exact hr), if_neg hb0])
      have q1 : ((b : Int) != 0) = true := by simp; omega
      have q1' : ¬ (b : Int) = 0 := by omega
      clear hr t1 t2 t3
      go_wp2_with (first | (with_reducible refine at_op { dst := some 19, op := Op.build 23 #[], type := 23, pos := "compact.go:60", after := #[], guard := none } ?_; refine wpList_build_as rfl 23 [] rfl [] rfl (.agg (S.v8 (S.zeros 32))) (hbu _) ?_) | (with_reducible refine at_op { dst := none, op := Op.store 23 (Operand.tmp 4) (Operand.tmp 19), type := 0, pos := "compact.go:60", after := #[{ on := 0, ground := Ground.data }, { on := 0, ground := Ground.phase }], guard := none } ?_; refine wpList_store_as rfl 23 (.tmp 4) (.tmp 19) rfl (.pointer (some ⟨w.heap.size + 1 + 1, 0, none⟩)) (.agg (S.v8 (S.zeros 32))) rfl rfl YZ hsz ?_))
      exact bodyPostM_ret (v := .tuple #[.agg (S.v8 (S.zeros 32)), .int .i64 25]) (results_rt Tryd.results9 _ _ (w.heap.size + 2) _ rfl (var23 RZ.out (S.zeros_length 32))) rfl ⟨by rw [hA2.out]; rfl, BZ.out⟩
  · have hA2 := hide (show A = (S.zeros 32, 1) by rw [HA.out, C.rootA, if_neg (by rw [← HN.out]; exact hr)])
    rw [show S.right b e N = false by simpa using hr]
    clear hr
    go_wp2_with (first | (with_reducible refine at_op { dst := some 14, op := Op.build 23 #[], type := 23, pos := "compact.go:58", after := #[], guard := none } ?_; refine wpList_build_as rfl 23 [] rfl [] rfl (.agg (S.v8 (S.zeros 32))) (hbu _) ?_) | (with_reducible refine at_op { dst := none, op := Op.store 23 (Operand.tmp 4) (Operand.tmp 14), type := 0, pos := "compact.go:58", after := #[{ on := 0, ground := Ground.data }, { on := 0, ground := Ground.phase }], guard := none } ?_; refine wpList_store_as rfl 23 (.tmp 4) (.tmp 14) rfl (.pointer (some ⟨w.heap.size + 1 + 1, 0, none⟩)) (.agg (S.v8 (S.zeros 32))) rfl rfl YZ hsz ?_))
    exact bodyPostM_ret (v := .tuple #[.agg (S.v8 (S.zeros 32)), .int .i64 1]) (results_rt Tryd.results9 _ _ (w.heap.size + 2) _ rfl (var23 RZ.out (S.zeros_length 32))) rfl ⟨by rw [hA2.out]; rfl, BZ.out⟩
end Go.Proofs.YtkljajfgdelfgaaDoor
