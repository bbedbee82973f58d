/- The document's Merge and Add. -/
import Derived.Test.YtkljajfgdelfgaaDoorIc
import Derived.Test.YtkljajfgdelfgaaDoorZe
namespace Go.Proofs.YtkljajfgdelfgaaDoor
open Go.RowKit

theorem bs28nil (W : World) : (Instr.buildSlice 28 0 #[]).run Tryd.prog W = .ok (.slice (some ⟨W.heap.size, 0, none⟩) 0 0) (W.alloc (.cells #[] 23)) := by
  go_simp
theorem DgAt.sce {w : World} {v : Value} {ds : List (List UInt8)} (h : DgAt w v ds) (hp : 0 < ds.length) : Sce S.v8l w v ds := by
  obtain ⟨ao, cap, rfl, _, h3, h4⟩ := h
  obtain ⟨g, off, rfl, _, hc⟩ := h4 hp
  refine Or.inr ⟨⟨g, off, none⟩, cap, rfl, fun j y hy => ?_⟩
  have hfl : (ds.flatMap S.v8l).length = ds.length * 32 := flat_len ds h3
  have hjl : j < ds.length * 32 := by rw [← hfl]; exact (List.getElem?_eq_some_iff.1 hy).1
  have hj : j = j / 32 * 32 + j % 32 := by omega
  rw [hj, flat_at ds h3 (j / 32) (j % 32) (by omega) (by omega)] at hy
  rw [Addr.add_lit]
  have := hc (j / 32) (by omega) (j % 32) y hy
  rw [Nat.add_assoc, ← hj] at this
  exact this
/-- Digests that lie somewhere, or none, are put behind a row. -/
theorem run_append_dg {B : Nat} {w : World} {g n cap : Nat} {u : Value} {ds ps : List (List UInt8)} (ty : TypeId) (h : DgRow B w (.slice (some ⟨g, 0, none⟩) n cap) ds) (hu : DgAt w u ps) (hl : ds.length + ps.length ≤ 1000) (hB : B ≤ w.heap.size) :
    ∃ v' w', (Builtin.append_ #[28, 28] ty #[.slice (some ⟨g, 0, none⟩) n cap, u]).run Tryd.prog w = .ok v' w' ∧ (DgRow B w' v' (ds ++ ps) ∧ Chg (fun j => (Value.slice (some ⟨g, 0, none⟩) n cap).ownBlock = some j) w w' ∧ ∃ g' c', v' = .slice (some ⟨g', 0, none⟩) (ds ++ ps).length c') := by
  have hsome : ∀ v' w', DgRow B w' v' (ds ++ ps) → 0 < (ds ++ ps).length → ∃ g' c', v' = .slice (some ⟨g', 0, none⟩) (ds ++ ps).length c' := fun v' w' hr hp => by
    rcases hr.2 with ⟨_, h0⟩ | ⟨g', c', _, e, _⟩
    · omega
    · exact ⟨g', c', e⟩
  have hu2 := hu
  obtain ⟨ao, cp, rfl, hm, h32, hs⟩ := hu
  by_cases hp : 0 < ps.length
  · obtain ⟨v', w', h1, h2, h3⟩ := Rw.append kdD ty h (hu2.sce hp) (fun y hy => by rw [S.v8l_length, h32 y hy]) (by omega) hB
    exact ⟨v', w', h1, h2, h3, hsome v' w' h2 (by rw [List.length_append]; omega)⟩
  · obtain rfl : ps = [] := List.eq_nil_of_length_eq_zero (by omega)
    have hn : n = ds.length ∧ ds.length ≤ cap := by
      rcases h.2 with ⟨e, _⟩ | ⟨g', cap', cur, e, hB, hr, q1, q2, q3, q4⟩
      · simp at e
      · simp only [Value.slice.injEq, Option.some.injEq, Addr.mk.injEq, and_true] at e; omega
    have hroom : n ≤ cap := by omega
    obtain ⟨i, hi, hz0, hz1, hz2⟩ := info_parts info31
    have hl0 : ∀ (x : Addr), (loadCells x 0).run Tryd.prog w = .ok #[] w := fun x => by simpa using run_loadCells_list (P := Tryd.prog) w x [] (by simp)
    refine ⟨.slice (some ⟨g, 0, none⟩) n cap, w, ?_, by rw [List.append_nil]; exact h, Chg.refl _ _, g, cap, by rw [List.append_nil, hn.1]⟩
    cases ao with
    | none => simp [Builtin.append_, run_underlying Tryd.underlying28, Builtin.lenOf, Builtin.firstCells, sizeOf, typeInfo, hi, storeCells, hroom]
    | some x => simp [Builtin.append_, run_underlying Tryd.underlying28, Builtin.lenOf, Builtin.firstCells, sizeOf, typeInfo, hi, hl0, storeCells, hroom]
theorem var37 {w : World} {g : Nat} {a b c : Value} (h : w.heap[g]? = some (.cells #[a, b, c] 37 (0, 0))) : (loadVar 37 ⟨g, 0, none⟩).run Tryd.prog w = .ok (.agg #[a, b, c]) w := run_loadVar_row w g 37 37 _ (0, 0) _ h Tryd.underlying37 rfl (size37 a b c)
theorem build37 (b e : Int) (ao : Option Addr) (n c : Nat) (w : World) : (Instr.build 37 #[(0, .int .u64 b), (1, .int .u64 e), (2, .slice ao n c)]).run Tryd.prog w = .ok (.agg #[.int .u64 b, .int .u64 e, .slice ao n c]) w := by
  go_simp
theorem store_chg {w w' : World} {g : Nat} {a b c x y z : Value} (h : (Instr.storeAt 37 (.pointer (some ⟨g, 0, none⟩)) (.agg #[x, y, z])).run Tryd.prog w = .ok () w') (hrow : w.heap[g]? = some (.cells #[a, b, c] 37 (0, 0))) (hx : x.oneCell' = true := by rfl) (hy : y.oneCell' = true := by rfl) (hz : z.oneCell' = true := by rfl) : Chg (fun k => k = g) w w' := by
  have hr := run_storeVar_row (P := Tryd.prog) w g 37 37 #[a, b, c] #[x, y, z] hrow (size37 x y z) rfl (all_oneCell_toArray (cs := [x, y, z]) (fun v hv => by simp only [List.mem_cons, List.not_mem_nil, or_false] at hv; rcases hv with rfl | rfl | rfl <;> assumption))
  simp only [Instr.storeAt, Instr.sureAddr, Sem.run_bind, Sem.run_pure, Result.andThen_ok, hr, Result.ok.injEq, true_and] at h
  rw [← h]
  exact ⟨rfl, rfl, rfl, by simp, fun k _ hk => setRow_other _ _ _ _ hk⟩
theorem NAt.lt {w : World} {v : Value} {ns : List Nat} (h : NAt w v ns) {j : Nat} (hj : v.ownBlock = some j) : j < w.heap.size ∨ ns = [] := by
  obtain ⟨ao, cap, rfl, h2, h3⟩ := h
  by_cases hp : 0 < ns.length
  · obtain ⟨g, off, rfl, h5, _⟩ := h3 hp
    simp only [Value.ownBlock, Option.some.injEq] at hj
    left; omega
  · right; exact List.eq_nil_of_length_eq_zero (by omega)
theorem NAt.chg {p : Nat → Prop} {w W : World} {v : Value} {ns : List Nat} (h : NAt w v ns) (hc : Chg p w W) (hp : ∀ j, v.ownBlock = some j → p j → False) : NAt W v ns := by
  obtain ⟨ao, cap, rfl, h2, h3⟩ := h
  refine ⟨ao, cap, rfl, h2, fun hp' => ?_⟩
  obtain ⟨g, off, rfl, h5, h6⟩ := h3 hp'
  exact ⟨g, off, rfl, Nat.lt_of_lt_of_le h5 hc.size, fun j n hn => (World.cell?_of_block (a := ⟨g, off + j, none⟩) (hc.block g h5 (fun e => hp g rfl e))).trans (h6 j n hn)⟩
theorem HsAt.lt {w : World} {gh gT : Nat} {a : Int} (h : HsAt w gh gT a) : gh < w.heap.size := block_lt_of_row h.h
set_option maxHeartbeats 40000000 in
set_option maxRecDepth 10000 in
theorem rmerge_any (a : Int) (gh gT b e b' e' : Nat) (u u' : Value) (hs hs' : List (List UInt8)) (w : World) (hb : b < 18446744073709551616) (he : e < 18446744073709551616) (hb' : b' < 18446744073709551616) (he' : e' < 18446744073709551616) (hu : DgAt w u hs) (hu' : DgAt w u' hs') (hH : HsAt w gh gT a) :
   Calls Tryd.prog 22 #[.pointer (some ⟨gh, 0, none⟩), .agg #[.int .u64 (b : Int), .int .u64 (e : Int), u], .agg #[.int .u64 (b' : Int), .int .u64 (e' : Int), u']] w fun r w' => Ansd w w' r (C.mergeA a b e hs b' e' hs') := by
  obtain ⟨uo, uc, rfl⟩ := hu.form
  obtain ⟨vo, vc, rfl⟩ := hu'.form
  have h32 : (∀ d ∈ hs, d.length = 32) ∧ ∀ d ∈ hs', d.length = 32 := by
    obtain ⟨_, _, _, _, h, _⟩ := hu
    obtain ⟨_, _, _, _, h', _⟩ := hu'
    exact ⟨h, h'⟩
  obtain ⟨A, hA⟩ : ∃ A, A = C.mergeA a b e hs b' e' hs' := ⟨_, rfl⟩
  rw [← hA]
  have HA := hide hA
  obtain ⟨N, hN⟩ : ∃ N, N = hs.length := ⟨_, rfl⟩
  obtain ⟨M, hM⟩ : ∃ M, M = hs'.length := ⟨_, rfl⟩
  have HN := hide (And.intro hN hM)
  have HU := hide hu
  have HU' := hide hu'
  have HH := hide hH
  have H32 := hide h32
  rw [← hN] at HU ⊢
  rw [← hM] at HU' ⊢
  clear hu hu' hH hA hN hM h32
  go_enter Tryd.func22, Tryd.ntmps22
  go_upto_region 1 with fail
  generalize hW0 : w.alloc _ = W0
  generalize hW1 : W0.alloc _ = W1
  generalize hW2 : W1.alloc _ = W2
  have B0 : Below w.heap.size w W0 := by rw [← hW0]; exact (Below.refl _ _).alloc (Nat.le_refl _) _
  have s0 : W0.heap.size = w.heap.size + 1 := by rw [← hW0]; simp
  have r0 : W0.heap[w.heap.size]? = some (.cells #[.int .u64 (b : Int), .int .u64 (e : Int), .slice uo N uc] 37 (0, 0)) := by rw [← hW0]; exact heap_alloc_new _ _
  have B1 : Below W0.heap.size W0 W1 := by rw [← hW1]; exact (Below.refl _ _).alloc (Nat.le_refl _) _
  have s1 : W1.heap.size = w.heap.size + 2 := by rw [← hW1]; simp [s0]
  have r1 : W1.heap[w.heap.size + 1]? = some (.cells #[.int .u64 (b' : Int), .int .u64 (e' : Int), .slice vo M vc] 37 (0, 0)) := by rw [← hW1, ← s0]; exact heap_alloc_new _ _
  have B2 : Below W1.heap.size W1 W2 := by rw [← hW2]; exact (Below.refl _ _).alloc (Nat.le_refl _) _
  have s2 : W2.heap.size = w.heap.size + 3 := by rw [← hW2]; simp [s1]
  have r2 : W2.heap[w.heap.size + 2]? = some (.cells #[.int .u64 0, .int .u64 0, .slice none 0 0] 37 (0, 0)) := by rw [← hW2, ← s1]; exact heap_alloc_new _ _
  have BB : Hid (Below w.heap.size w W2) := ((B0.trans (B1.mono (by omega))).trans (B2.mono (by omega)))
  have Q0 : Hid (W2.heap[w.heap.size]? = some (.cells #[.int .u64 (b : Int), .int .u64 (e : Int), .slice uo N uc] 37 (0, 0))) := ((B2.block _ (by omega)).trans ((B1.block _ (by omega)).trans r0))
  have Q1 : Hid (W2.heap[w.heap.size + 1]? = some (.cells #[.int .u64 (b' : Int), .int .u64 (e' : Int), .slice vo M vc] 37 (0, 0))) := ((B2.block _ (by omega)).trans r1)
  have Q2 : Hid (W2.heap[w.heap.size + 2]? = some (.cells #[.int .u64 0, .int .u64 0, .slice none 0 0] 37 (0, 0))) := r2
  clear hW0 B0 s0 r0 hW1 B1 s1 r1 hW2 B2 s2 r2
  obtain ⟨c0, c1, c2⟩ := cells3 Q0.out
  obtain ⟨d0, d1, d2⟩ := cells3 Q1.out
  go_wp2_with fail
  refine (rright_any b e N uc uo W2 hb he).mono ?_
  rintro r W3 ⟨rfl, hb3⟩
  have S0 : Hid (W3.heap[w.heap.size]? = some (.cells #[.int .u64 (b : Int), .int .u64 (e : Int), .slice uo N uc] 37 (0, 0))) := (hb3.block _ (block_lt_of_row Q0.out)).trans Q0.out
  have S1 : Hid (W3.heap[w.heap.size + 1]? = some (.cells #[.int .u64 (b' : Int), .int .u64 (e' : Int), .slice vo M vc] 37 (0, 0))) := (hb3.block _ (block_lt_of_row Q1.out)).trans Q1.out
  have S2 : Hid (W3.heap[w.heap.size + 2]? = some (.cells #[.int .u64 0, .int .u64 0, .slice none 0 0] 37 (0, 0))) := (hb3.block _ (block_lt_of_row Q2.out)).trans Q2.out
  have B3 := hide (BB.out.trans (hb3.mono BB.out.size))
  clear hb3 Q0 Q1 Q2 c0 c1 c2 d0 d1 d2 BB
  obtain ⟨c0, c1, c2⟩ := cells3 S0.out
  obtain ⟨d0, d1, d2⟩ := cells3 S1.out
  by_cases hr1 : S.right b e N = true
  · rw [hr1]
    go_wp2_with fail
    refine (rright_any b' e' M vc vo W3 hb' he').mono ?_
    rintro r W4 ⟨rfl, hb4⟩
    have T0 : Hid (W4.heap[w.heap.size]? = some (.cells #[.int .u64 (b : Int), .int .u64 (e : Int), .slice uo N uc] 37 (0, 0))) := (hb4.block _ (block_lt_of_row S0.out)).trans S0.out
    have T1 : Hid (W4.heap[w.heap.size + 1]? = some (.cells #[.int .u64 (b' : Int), .int .u64 (e' : Int), .slice vo M vc] 37 (0, 0))) := (hb4.block _ (block_lt_of_row S1.out)).trans S1.out
    have T2 : Hid (W4.heap[w.heap.size + 2]? = some (.cells #[.int .u64 0, .int .u64 0, .slice none 0 0] 37 (0, 0))) := (hb4.block _ (block_lt_of_row S2.out)).trans S2.out
    have B4 := hide (B3.out.trans (hb4.mono B3.out.size))
    clear hb4 S0 S1 S2 c0 c1 c2 d0 d1 d2
    obtain ⟨c0, c1, c2⟩ := cells3 T0.out
    obtain ⟨d0, d1, d2⟩ := cells3 T1.out
    by_cases hr2 : S.right b' e' M = true
    · rw [hr2]
      obtain ⟨t1, t2, t3⟩ := S.right_of hr1
      obtain ⟨s1, s2, s3⟩ := S.right_of hr2
      by_cases hm : e = b'
      · obtain ⟨G, hG⟩ : ∃ G, G = C.glue (S.node a) [] b e e' hs hs' := ⟨_, rfl⟩
        have hA2 := hide (show A = ⟨b, e', G, 0⟩ by rw [HA.out, C.mergeA, if_pos ⟨by rw [← HN.out.1]; exact hr1, by rw [← HN.out.2]; exact hr2⟩, if_pos hm, hG])
        subst hm
        have HTI := hide (C.tiles_append _ _ _ _ _ (C.blocks_tiles _ b e rfl t1 t2) (C.blocks_tiles _ e e' rfl s1 s2))
        have H3 := hide (And.intro (And.intro t1 s1) (And.intro s2 (And.intro t3 s3)))
        have L64 := hide (show N ≤ 64 ∧ M ≤ 64 by rw [t3, s3]; exact ⟨C.blocks_len b e, C.blocks_len e e'⟩)
        have HG := hide (show G = C.join (S.node a) [] (C.blocks b e') (C.blocks b e ++ C.blocks e e') (hs ++ hs') by rw [hG]; rfl)
        clear hr1 hr2 t1 t2 t3 s1 s2 s3 hG
        go_wp2_with fail
        refine wp_region_noPanic ?_
        refine wp_region_held_drew (S := (fun W => Chg (fun _ => False) W4 W)) follows ((Chg.refl _ _).drew) (fun hHeld => ?_)
        clear hHeld
        have hHeld : Chg (fun _ => False) W4 W4.drew := (Chg.refl _ _).drew
        have CZ0 := hide hHeld
        have T0' : Hid (W4.drew.heap[w.heap.size]? = some (.cells #[.int .u64 (b : Int), .int .u64 (e : Int), .slice uo N uc] 37 (0, 0))) := T0.out
        have T1' : Hid (W4.drew.heap[w.heap.size + 1]? = some (.cells #[.int .u64 (e : Int), .int .u64 (e' : Int), .slice vo M vc] 37 (0, 0))) := T1.out
        have T2' : Hid (W4.drew.heap[w.heap.size + 2]? = some (.cells #[.int .u64 0, .int .u64 0, .slice none 0 0] 37 (0, 0))) := T2.out
        generalize W4.drew = Z0 at CZ0 hHeld T0' T1' T2' ⊢
        refine wpAnyH_take (i := 0) (oi := { dst := some 25, op := Op.fieldAddr 37 (Operand.tmp 4) 0, type := 0, pos := "ref.go:89", after := #[], guard := none }) (v := ?_) rfl (by kernel_rfl) (by kernel_rfl) (by kernel_rfl) (fun _ _ _ h => h) (Or.inl ⟨by rfl, ?_⟩) (by assumption) ?_
        rotate_left
        · intro w hSw
          clear hSw
          go_simp
          all_goals with_reducible rfl
        simp only [Act.put, List.setIfInBounds_toArray, List.set_cons_zero, List.set_cons_succ]
        refine wpAnyH_take (i := 1) (oi := { dst := some 26, op := Op.load 27 (Operand.tmp 25), type := 27, pos := "ref.go:89", after := #[{ on := 0, ground := Ground.data }], guard := none }) (v := ?_) rfl (by kernel_rfl) (by kernel_rfl) (by kernel_rfl) (fun _ _ _ h => h) (Or.inl ⟨by rfl, ?_⟩) (by assumption) ?_
        rotate_left
        · intro w hSw
          obtain ⟨f0, f1, f2⟩ := cells3 (hSw.row T0.out (fun e => e))
          clear hSw
          go_simp
          all_goals with_reducible rfl
        simp only [Act.put, List.setIfInBounds_toArray, List.set_cons_zero, List.set_cons_succ]
        refine wpAnyH_take (i := 2) (oi := { dst := some 27, op := Op.fieldAddr 37 (Operand.tmp 4) 1, type := 0, pos := "ref.go:89", after := #[], guard := none }) (v := ?_) rfl (by kernel_rfl) (by kernel_rfl) (by kernel_rfl) (fun _ _ _ h => h) (Or.inl ⟨by rfl, ?_⟩) (by assumption) ?_
        rotate_left
        · intro w hSw
          clear hSw
          go_simp
          all_goals with_reducible rfl
        simp only [Act.put, List.setIfInBounds_toArray, List.set_cons_zero, List.set_cons_succ]
        refine wpAnyH_take (i := 3) (oi := { dst := some 28, op := Op.load 27 (Operand.tmp 27), type := 27, pos := "ref.go:89", after := #[{ on := 2, ground := Ground.data }], guard := none }) (v := ?_) rfl (by kernel_rfl) (by kernel_rfl) (by kernel_rfl) (fun _ _ _ h => h) (Or.inl ⟨by rfl, ?_⟩) (by assumption) ?_
        rotate_left
        · intro w hSw
          obtain ⟨f0, f1, f2⟩ := cells3 (hSw.row T0.out (fun e => e))
          clear hSw
          go_simp
          all_goals with_reducible rfl
        simp only [Act.put, List.setIfInBounds_toArray, List.set_cons_zero, List.set_cons_succ]
        refine wpAnyH_take (i := 5) (oi := { dst := some 30, op := Op.fieldAddr 37 (Operand.tmp 5) 0, type := 0, pos := "ref.go:89", after := #[], guard := none }) (v := ?_) rfl (by kernel_rfl) (by kernel_rfl) (by kernel_rfl) (fun _ _ _ h => h) (Or.inl ⟨by rfl, ?_⟩) (by assumption) ?_
        rotate_left
        · intro w hSw
          clear hSw
          go_simp
          all_goals with_reducible rfl
        simp only [Act.put, List.setIfInBounds_toArray, List.set_cons_zero, List.set_cons_succ]
        refine wpAnyH_take (i := 6) (oi := { dst := some 31, op := Op.load 27 (Operand.tmp 30), type := 27, pos := "ref.go:89", after := #[{ on := 5, ground := Ground.data }], guard := none }) (v := ?_) rfl (by kernel_rfl) (by kernel_rfl) (by kernel_rfl) (fun _ _ _ h => h) (Or.inl ⟨by rfl, ?_⟩) (by assumption) ?_
        rotate_left
        · intro w hSw
          obtain ⟨f0, f1, f2⟩ := cells3 (hSw.row T1.out (fun e => e))
          clear hSw
          go_simp
          all_goals with_reducible rfl
        simp only [Act.put, List.setIfInBounds_toArray, List.set_cons_zero, List.set_cons_succ]
        refine wpAnyH_take (i := 7) (oi := { dst := some 32, op := Op.fieldAddr 37 (Operand.tmp 5) 1, type := 0, pos := "ref.go:89", after := #[], guard := none }) (v := ?_) rfl (by kernel_rfl) (by kernel_rfl) (by kernel_rfl) (fun _ _ _ h => h) (Or.inl ⟨by rfl, ?_⟩) (by assumption) ?_
        rotate_left
        · intro w hSw
          clear hSw
          go_simp
          all_goals with_reducible rfl
        simp only [Act.put, List.setIfInBounds_toArray, List.set_cons_zero, List.set_cons_succ]
        refine wpAnyH_take (i := 8) (oi := { dst := some 33, op := Op.load 27 (Operand.tmp 32), type := 27, pos := "ref.go:89", after := #[{ on := 7, ground := Ground.data }], guard := none }) (v := ?_) rfl (by kernel_rfl) (by kernel_rfl) (by kernel_rfl) (fun _ _ _ h => h) (Or.inl ⟨by rfl, ?_⟩) (by assumption) ?_
        rotate_left
        · intro w hSw
          obtain ⟨f0, f1, f2⟩ := cells3 (hSw.row T1.out (fun e => e))
          clear hSw
          go_simp
          all_goals with_reducible rfl
        simp only [Act.put, List.setIfInBounds_toArray, List.set_cons_zero, List.set_cons_succ]
        refine wpAnyH_ready (rs := [4]) (by kernel_rfl) (by simp) ?_
        refine AllReadyH.cons (o := { dst := some 29, op := Op.call { callee := Callee.value (Operand.func 24), args := #[Operand.tmp 26, Operand.tmp 28], argTypes := #[27, 27] }, type := 38, pos := "ref.go:89", after := #[{ on := 1, ground := Ground.data }, { on := 3, ground := Ground.data }], guard := none }) rfl (fun K hK => ?_) AllReadyH.nil
        go_simp
        refine (rblocks_any b e Z0 (by omega) (by omega)).mono ?_
        rintro e Z1 ⟨⟨vb, rfl, hv⟩, hb2⟩
        obtain ⟨Xo, Xc, rfl⟩ := hv.form
        obtain ⟨Xn, hXn⟩ : ∃ n, n = (C.blocks b e).length := ⟨_, rfl⟩
        rw [← hXn] at hv ⊢
        have X : Hid (NRow W4.heap.size _ (.slice Xo Xn Xc) (C.blocks b e)) := hv.mono CZ0.out.size
        have HXN := hide hXn
        clear hv hXn
        replace T0' : Hid (Z1.heap[w.heap.size]? = some (.cells #[.int .u64 (b : Int), .int .u64 (e : Int), .slice uo N uc] 37 (0, 0))) := (hb2.block _ (block_lt_of_row T0'.out)).trans T0'.out
        replace T1' : Hid (Z1.heap[w.heap.size + 1]? = some (.cells #[.int .u64 (e : Int), .int .u64 (e' : Int), .slice vo M vc] 37 (0, 0))) := (hb2.block _ (block_lt_of_row T1'.out)).trans T1'.out
        replace T2' : Hid (Z1.heap[w.heap.size + 2]? = some (.cells #[.int .u64 0, .int .u64 0, .slice none 0 0] 37 (0, 0))) := (hb2.block _ (block_lt_of_row T2'.out)).trans T2'.out
        have CZ1 : Hid (Chg (fun _ => False) W4 Z1) := CZ0.out.then hb2
        clear hb2 CZ0
        clear hHeld
        refine hK.out _ _ CZ1.out (fun hHeld => ?_)
        clear hK K
        try simp only [Act.put, List.setIfInBounds_toArray, List.set_cons_zero, List.set_cons_succ]
        refine wpAnyH_ready (rs := [9]) (by kernel_rfl) (by simp) ?_
        refine AllReadyH.cons (o := { dst := some 34, op := Op.call { callee := Callee.value (Operand.func 24), args := #[Operand.tmp 31, Operand.tmp 33], argTypes := #[27, 27] }, type := 38, pos := "ref.go:89", after := #[{ on := 6, ground := Ground.data }, { on := 8, ground := Ground.data }, { on := 4, ground := Ground.chain }], guard := none }) rfl (fun K hK => ?_) AllReadyH.nil
        go_simp
        refine (rblocks_any e e' Z1 (by omega) (by omega)).mono ?_
        rintro e Z2 ⟨⟨vb, rfl, hv⟩, hb2⟩
        obtain ⟨Yo, Yc, rfl⟩ := hv.form
        obtain ⟨Yn, hYn⟩ : ∃ n, n = (C.blocks e e').length := ⟨_, rfl⟩
        rw [← hYn] at hv ⊢
        have Y : Hid (NRow W4.heap.size _ (.slice Yo Yn Yc) (C.blocks e e')) := hv.mono CZ1.out.size
        have HYN := hide hYn
        clear hv hYn
        replace T0' : Hid (Z2.heap[w.heap.size]? = some (.cells #[.int .u64 (b : Int), .int .u64 (e : Int), .slice uo N uc] 37 (0, 0))) := (hb2.block _ (block_lt_of_row T0'.out)).trans T0'.out
        replace T1' : Hid (Z2.heap[w.heap.size + 1]? = some (.cells #[.int .u64 (e : Int), .int .u64 (e' : Int), .slice vo M vc] 37 (0, 0))) := (hb2.block _ (block_lt_of_row T1'.out)).trans T1'.out
        replace T2' : Hid (Z2.heap[w.heap.size + 2]? = some (.cells #[.int .u64 0, .int .u64 0, .slice none 0 0] 37 (0, 0))) := (hb2.block _ (block_lt_of_row T2'.out)).trans T2'.out
        replace X : Hid (NRow W4.heap.size Z2 (.slice Xo Xn Xc) (C.blocks b e)) := X.out.below hb2
        have CZ2 : Hid (Chg (fun _ => False) W4 Z2) := CZ1.out.then hb2
        clear hb2 CZ1
        clear hHeld
        refine hK.out _ _ CZ2.out (fun hHeld => ?_)
        clear hK K
        try simp only [Act.put, List.setIfInBounds_toArray, List.set_cons_zero, List.set_cons_succ]
        refine wpAnyH_ready (rs := [10]) (by kernel_rfl) (by simp) ?_
        obtain ⟨vn, Z3, hst, hR9, hC9⟩ := Rw.append kdU 38 (w := Z2) (v := .slice Xo Xn Xc) X.out Y.out.src (encU_len _) (by have := C.blocks_len b e; have := C.blocks_len e e'; omega) CZ2.out.size
        obtain ⟨so, sc, rfl⟩ := hR9.form
        obtain ⟨sn, hsn⟩ : ∃ m, m = (C.blocks b e ++ C.blocks e e').length := ⟨_, rfl⟩
        rw [← hsn] at hst hR9
        have HX9 := fun j hj => (X.out.blk (j := j) hj).1
        refine step_append_as (o := { dst := some 35, op := Op.call { callee := Callee.builtin Builtin.append, args := #[Operand.tmp 29, Operand.tmp 34], argTypes := #[38, 38] }, type := 38, pos := "ref.go:89", after := #[{ on := 4, ground := Ground.data }, { on := 9, ground := Ground.data }, { on := 9, ground := Ground.chain }], guard := none }) rfl rfl (.tmp 29) (.tmp 34) 38 38 rfl (.slice Xo Xn Xc) (.slice Yo Yn Yc) rfl rfl (.slice so sn sc) Z3 hst AllReadyH.nil ⟨CZ2.out.trans hC9 (fun k hk e => by have := HX9 k e; omega), fun hHeld => ?_⟩
        have CZ3 : Hid (Chg (fun _ => False) W4 Z3) := CZ2.out.trans hC9 (fun k hk e => by have := HX9 k e; omega)
        replace T0' : Hid (Z3.heap[w.heap.size]? = some (.cells #[.int .u64 (b : Int), .int .u64 (e : Int), .slice uo N uc] 37 (0, 0))) := hC9.row T0'.out (fun e => (X.out.apart T0'.out (by decide)) e)
        replace T1' : Hid (Z3.heap[w.heap.size + 1]? = some (.cells #[.int .u64 (e : Int), .int .u64 (e' : Int), .slice vo M vc] 37 (0, 0))) := hC9.row T1'.out (fun e => (X.out.apart T1'.out (by decide)) e)
        replace T2' : Hid (Z3.heap[w.heap.size + 2]? = some (.cells #[.int .u64 0, .int .u64 0, .slice none 0 0] 37 (0, 0))) := hC9.row T2'.out (fun e => (X.out.apart T2'.out (by decide)) e)
        have NS := hide hR9.nAt
        have NSB := hide (show ∀ j, (Value.slice so sn sc).ownBlock = some j → j < Z3.heap.size from fun j hj => (hR9.blk hj).2.1)
        clear hst hC9 hR9 HX9 CZ2 X Y hsn
        simp only [Act.put, List.setIfInBounds_toArray, List.set_cons_zero, List.set_cons_succ]
        refine wpAnyH_take (i := 11) (oi := { dst := some 8, op := Op.assign (Operand.tmp 35), type := 38, pos := "ref.go:89", after := #[{ on := 10, ground := Ground.data }, { on := 10, ground := Ground.chain }, { on := 0, ground := Ground.phase }, { on := 1, ground := Ground.phase }, { on := 2, ground := Ground.phase }, { on := 3, ground := Ground.phase }, { on := 4, ground := Ground.phase }, { on := 5, ground := Ground.phase }, { on := 6, ground := Ground.phase }, { on := 7, ground := Ground.phase }, { on := 8, ground := Ground.phase }, { on := 9, ground := Ground.phase }, { on := 10, ground := Ground.phase }], guard := none }) (v := ?_) rfl (by kernel_rfl) (by kernel_rfl) (by kernel_rfl) (fun _ _ _ h => h) (Or.inl ⟨by rfl, ?_⟩) (by assumption) ?_
        rotate_left
        · intro w hSw
          clear hSw
          go_simp
          all_goals with_reducible rfl
        simp only [Act.put, List.setIfInBounds_toArray, List.set_cons_zero, List.set_cons_succ]
        refine wpAnyH_done (by kernel_rfl) ?_ _
        refine NoPanic.normal ?_
        clear hHeld
        have B5 := hide (B4.out.trans (CZ3.out.below w.heap.size B4.out.size (fun k hk e => by omega)))
        obtain ⟨W5, hW5⟩ : ∃ Z, Z = Z3 := ⟨_, rfl⟩
        rw [← hW5] at B5 NS NSB T0' T1' T2' ⊢
        clear hW5 CZ3 T0 T1 T2 c0 c1 c2 d0 d1 d2 B4
        go_wp2_with fail
        refine wp_region_noPanic ?_
        refine wp_region_held_drew (S := (fun W => Chg (fun _ => False) W5 W)) follows ((Chg.refl _ _).drew) (fun hHeld => ?_)
        clear hHeld
        have hHeld : Chg (fun _ => False) W5 W5.drew := (Chg.refl _ _).drew
        have CZ0 := hide hHeld
        have T0'' : Hid (W5.drew.heap[w.heap.size]? = some (.cells #[.int .u64 (b : Int), .int .u64 (e : Int), .slice uo N uc] 37 (0, 0))) := T0'.out
        have T1'' : Hid (W5.drew.heap[w.heap.size + 1]? = some (.cells #[.int .u64 (e : Int), .int .u64 (e' : Int), .slice vo M vc] 37 (0, 0))) := T1'.out
        have T2'' : Hid (W5.drew.heap[w.heap.size + 2]? = some (.cells #[.int .u64 0, .int .u64 0, .slice none 0 0] 37 (0, 0))) := T2'.out
        have NS' : Hid (NAt W5.drew (.slice so sn sc) (C.blocks b e ++ C.blocks e e')) := NS.out.below ((Below.refl _ _).drew)
        generalize W5.drew = Z0 at CZ0 hHeld T0'' T1'' T2'' NS' ⊢
        refine wpAnyH_take (i := 1) (oi := { dst := some 37, op := Op.fieldAddr 37 (Operand.tmp 4) 2, type := 0, pos := "ref.go:90", after := #[], guard := none }) (v := ?_) rfl (by kernel_rfl) (by kernel_rfl) (by kernel_rfl) (fun _ _ _ h => h) (Or.inl ⟨by rfl, ?_⟩) (by assumption) ?_
        rotate_left
        · intro w hSw
          clear hSw
          go_simp
          all_goals with_reducible rfl
        simp only [Act.put, List.setIfInBounds_toArray, List.set_cons_zero, List.set_cons_succ]
        refine wpAnyH_take (i := 2) (oi := { dst := some 38, op := Op.load 28 (Operand.tmp 37), type := 28, pos := "ref.go:90", after := #[{ on := 1, ground := Ground.data }], guard := none }) (v := ?_) rfl (by kernel_rfl) (by kernel_rfl) (by kernel_rfl) (fun _ _ _ h => h) (Or.inl ⟨by rfl, ?_⟩) (by assumption) ?_
        rotate_left
        · intro w hSw
          obtain ⟨f0, f1, f2⟩ := cells3 (hSw.row T0'.out (fun e => e))
          clear hSw
          go_simp
          all_goals with_reducible rfl
        simp only [Act.put, List.setIfInBounds_toArray, List.set_cons_zero, List.set_cons_succ]
        refine wpAnyH_take (i := 4) (oi := { dst := some 40, op := Op.fieldAddr 37 (Operand.tmp 5) 2, type := 0, pos := "ref.go:90", after := #[], guard := none }) (v := ?_) rfl (by kernel_rfl) (by kernel_rfl) (by kernel_rfl) (fun _ _ _ h => h) (Or.inl ⟨by rfl, ?_⟩) (by assumption) ?_
        rotate_left
        · intro w hSw
          clear hSw
          go_simp
          all_goals with_reducible rfl
        simp only [Act.put, List.setIfInBounds_toArray, List.set_cons_zero, List.set_cons_succ]
        refine wpAnyH_take (i := 5) (oi := { dst := some 41, op := Op.load 28 (Operand.tmp 40), type := 28, pos := "ref.go:90", after := #[{ on := 4, ground := Ground.data }], guard := none }) (v := ?_) rfl (by kernel_rfl) (by kernel_rfl) (by kernel_rfl) (fun _ _ _ h => h) (Or.inl ⟨by rfl, ?_⟩) (by assumption) ?_
        rotate_left
        · intro w hSw
          obtain ⟨f0, f1, f2⟩ := cells3 (hSw.row T1'.out (fun e => e))
          clear hSw
          go_simp
          all_goals with_reducible rfl
        simp only [Act.put, List.setIfInBounds_toArray, List.set_cons_zero, List.set_cons_succ]
        refine wpAnyH_ready (rs := [0]) (by kernel_rfl) (by simp) ?_
        refine step_buildSlice_as (o := { dst := some 36, op := Op.buildSlice 28 0 #[], type := 28, pos := "ref.go:90", after := #[], guard := none }) rfl rfl 28 0 [] rfl [] rfl _ _ (bs28nil Z0) AllReadyH.nil ⟨CZ0.out.alloc _, fun hHeld => ?_⟩
        clear hHeld
        simp only [Act.put, List.setIfInBounds_toArray, List.set_cons_zero, List.set_cons_succ]
        obtain ⟨gl, hgl⟩ : ∃ gg, gg = Z0.heap.size := ⟨_, rfl⟩
        rw [← hgl]
        generalize hZ : Z0.alloc _ = Z1
        have hb2 : Below Z0.heap.size Z0 Z1 := by rw [← hZ]; exact (Below.refl _ _).alloc (Nat.le_refl _) _
        have Rgl : Hid (Z1.heap[gl]? = some (.cells #[] 23 (0, 0))) := by rw [← hZ, hgl]; exact heap_alloc_new _ _
        have Ggl := hide (show W5.heap.size ≤ gl by rw [hgl]; exact CZ0.out.size)
        clear hZ hgl
        replace T0'' : Hid (Z1.heap[w.heap.size]? = some (.cells #[.int .u64 (b : Int), .int .u64 (e : Int), .slice uo N uc] 37 (0, 0))) := (hb2.block _ (block_lt_of_row T0''.out)).trans T0''.out
        replace T1'' : Hid (Z1.heap[w.heap.size + 1]? = some (.cells #[.int .u64 (e : Int), .int .u64 (e' : Int), .slice vo M vc] 37 (0, 0))) := (hb2.block _ (block_lt_of_row T1''.out)).trans T1''.out
        replace T2'' : Hid (Z1.heap[w.heap.size + 2]? = some (.cells #[.int .u64 0, .int .u64 0, .slice none 0 0] 37 (0, 0))) := (hb2.block _ (block_lt_of_row T2''.out)).trans T2''.out
        replace NS' : Hid (NAt Z1 (.slice so sn sc) (C.blocks b e ++ C.blocks e e')) := NS'.out.below hb2
        have CZ1 : Hid (Chg (fun _ => False) W5 Z1) := CZ0.out.then hb2
        clear hb2 CZ0
        have hHeld := CZ1.out
        refine wpAnyH_ready (rs := [3]) (by kernel_rfl) (by simp) ?_
        obtain ⟨vn, Z2, hst, hR9, hC9, g9, c9, rfl⟩ := run_append_dg 28 (w := Z1) (DgRow.empty Rgl.out W5.heap.size Ggl.out) (HU.out.below (B5.out.trans (CZ1.out.below w.heap.size B5.out.size (fun k hk e => by omega)))) (by simp only [List.length_nil, Nat.zero_add]; have := L64.out; have := HN.out; omega) CZ1.out.size
        have HX9 : ∀ j, (Value.slice (some ⟨gl, 0, none⟩) 0 0).ownBlock = some j → W5.heap.size ≤ j := fun j hj => (Rw.blk (el := 23) (DgRow.empty Rgl.out W5.heap.size Ggl.out) hj).1
        refine step_append_as (o := { dst := some 39, op := Op.call { callee := Callee.builtin Builtin.append, args := #[Operand.tmp 36, Operand.tmp 38], argTypes := #[28, 28] }, type := 28, pos := "ref.go:90", after := #[{ on := 0, ground := Ground.data }, { on := 2, ground := Ground.data }], guard := none }) rfl rfl (.tmp 36) (.tmp 38) 28 28 rfl (.slice (some ⟨gl, 0, none⟩) 0 0) (.slice uo N uc) rfl rfl _ Z2 hst AllReadyH.nil ⟨CZ1.out.trans hC9 (fun k hk e => by have := HX9 k e; omega), fun hHeld => ?_⟩
        have CZ2 : Hid (Chg (fun _ => False) W5 Z2) := CZ1.out.trans hC9 (fun k hk e => by have := HX9 k e; omega)
        replace T0'' : Hid (Z2.heap[w.heap.size]? = some (.cells #[.int .u64 (b : Int), .int .u64 (e : Int), .slice uo N uc] 37 (0, 0))) := hC9.row T0''.out (fun e => by have := HX9 _ e; have := block_lt_of_row T0'.out; omega)
        replace T1'' : Hid (Z2.heap[w.heap.size + 1]? = some (.cells #[.int .u64 (e : Int), .int .u64 (e' : Int), .slice vo M vc] 37 (0, 0))) := hC9.row T1''.out (fun e => by have := HX9 _ e; have := block_lt_of_row T1'.out; omega)
        replace T2'' : Hid (Z2.heap[w.heap.size + 2]? = some (.cells #[.int .u64 0, .int .u64 0, .slice none 0 0] 37 (0, 0))) := hC9.row T2''.out (fun e => by have := HX9 _ e; have := block_lt_of_row T2'.out; omega)
        replace NS' := hide (NS'.out.chg hC9 (fun j hj e => by have := HX9 _ e; have := NSB.out j hj; omega))
        have DX_ := hide hR9
        clear hst hC9 hR9 HX9 CZ1 Rgl
        rw [List.nil_append] at DX_
        try rw [List.nil_append]
        rw [← HN.out.1] at DX_ ⊢
        have DX := DX_
        clear DX_
        simp only [Act.put, List.setIfInBounds_toArray, List.set_cons_zero, List.set_cons_succ]
        refine wpAnyH_ready (rs := [6]) (by kernel_rfl) (by simp) ?_
        obtain ⟨vn, Z3, hst, hR9, hC9, g9b, c9b, rfl⟩ := run_append_dg 28 (w := Z2) DX.out (HU'.out.below (B5.out.trans (CZ2.out.below w.heap.size B5.out.size (fun k hk e => by omega)))) (by have := L64.out; have := HN.out; omega) CZ2.out.size
        have HX9 : ∀ j, (Value.slice (some ⟨g9, 0, none⟩) N c9).ownBlock = some j → W5.heap.size ≤ j := fun j hj => (Rw.blk (el := 23) DX.out hj).1
        refine step_append_as (o := { dst := some 42, op := Op.call { callee := Callee.builtin Builtin.append, args := #[Operand.tmp 39, Operand.tmp 41], argTypes := #[28, 28] }, type := 28, pos := "ref.go:90", after := #[{ on := 3, ground := Ground.data }, { on := 5, ground := Ground.data }, { on := 3, ground := Ground.chain }], guard := none }) rfl rfl (.tmp 39) (.tmp 41) 28 28 rfl (.slice (some ⟨g9, 0, none⟩) N c9) (.slice vo M vc) rfl rfl _ Z3 hst AllReadyH.nil ⟨CZ2.out.trans hC9 (fun k hk e => by have := HX9 k e; omega), fun hHeld => ?_⟩
        have CZ3 : Hid (Chg (fun _ => False) W5 Z3) := CZ2.out.trans hC9 (fun k hk e => by have := HX9 k e; omega)
        replace T0'' : Hid (Z3.heap[w.heap.size]? = some (.cells #[.int .u64 (b : Int), .int .u64 (e : Int), .slice uo N uc] 37 (0, 0))) := hC9.row T0''.out (fun e => by have := HX9 _ e; have := block_lt_of_row T0'.out; omega)
        replace T1'' : Hid (Z3.heap[w.heap.size + 1]? = some (.cells #[.int .u64 (e : Int), .int .u64 (e' : Int), .slice vo M vc] 37 (0, 0))) := hC9.row T1''.out (fun e => by have := HX9 _ e; have := block_lt_of_row T1'.out; omega)
        replace T2'' : Hid (Z3.heap[w.heap.size + 2]? = some (.cells #[.int .u64 0, .int .u64 0, .slice none 0 0] 37 (0, 0))) := hC9.row T2''.out (fun e => by have := HX9 _ e; have := block_lt_of_row T2'.out; omega)
        replace NS' := hide (NS'.out.chg hC9 (fun j hj e => by have := HX9 _ e; have := NSB.out j hj; omega))
        have DX_ := hide hR9
        clear hst hC9 hR9 HX9 CZ2 DX
        have DX := DX_
        clear DX_
        simp only [Act.put, List.setIfInBounds_toArray, List.set_cons_zero, List.set_cons_succ]
        refine wpAnyH_take (i := 7) (oi := { dst := some 9, op := Op.assign (Operand.tmp 42), type := 28, pos := "ref.go:90", after := #[{ on := 6, ground := Ground.data }, { on := 6, ground := Ground.chain }, { on := 0, ground := Ground.phase }, { on := 1, ground := Ground.phase }, { on := 2, ground := Ground.phase }, { on := 3, ground := Ground.phase }, { on := 4, ground := Ground.phase }, { on := 5, ground := Ground.phase }, { on := 6, ground := Ground.phase }], guard := none }) (v := ?_) rfl (by kernel_rfl) (by kernel_rfl) (by kernel_rfl) (fun _ _ _ h => h) (Or.inl ⟨by rfl, ?_⟩) (by assumption) ?_
        rotate_left
        · intro w hSw
          clear hSw
          go_simp
          all_goals with_reducible rfl
        simp only [Act.put, List.setIfInBounds_toArray, List.set_cons_zero, List.set_cons_succ]
        refine wpAnyH_done (by kernel_rfl) ?_ _
        refine NoPanic.normal ?_
        clear hHeld
        have B6 := hide (B5.out.trans (CZ3.out.below w.heap.size B5.out.size (fun k hk e => by omega)))
        obtain ⟨W6, hW6⟩ : ∃ Z, Z = Z3 := ⟨_, rfl⟩
        rw [← hW6] at B6 NS' DX T0'' T1'' T2'' ⊢
        obtain ⟨hn, hhn⟩ : ∃ n, n = hs.length + hs'.length := ⟨_, rfl⟩
        rw [List.length_append, ← hhn] at DX
        try rw [List.length_append]
        rw [← hhn]
        clear hW6 CZ3 T0' T1' T2' B5 hhn
        have DC := hide (DgRow.dgC DX.out (by rw [List.length_append]; have := L64.out; have := HN.out; omega) (fun d hd => by rcases List.mem_append.1 hd with h | h; exact H32.out.1 d h; exact H32.out.2 d h))
        go_wp2_with fail
        refine wp_region_noPanic ?_
        refine wp_region_held_drew (S := (fun W => Chg (fun k => k = w.heap.size + 2) W6 W)) follows ((Chg.refl _ _).drew) (fun hHeld => ?_)
        clear hHeld
        have hHeld : Chg (fun k => k = w.heap.size + 2) W6 W6.drew := (Chg.refl _ _).drew
        have CZ0 := hide hHeld
        have T2''' : Hid (W6.drew.heap[w.heap.size + 2]? = some (.cells #[.int .u64 0, .int .u64 0, .slice none 0 0] 37 (0, 0))) := T2''.out
        have NS'' : Hid (NAt W6.drew (.slice so sn sc) (C.blocks b e ++ C.blocks e e')) := NS'.out.below ((Below.refl _ _).drew)
        have DC' : Hid (DgC W6.drew (.slice (some ⟨g9b, 0, none⟩) hn c9b) (hs ++ hs')) := DC.out.below ((Below.refl _ _).drew)
        generalize W6.drew = Z0 at CZ0 hHeld T2''' NS'' DC' ⊢
        refine wpAnyH_take (i := 0) (oi := { dst := some 43, op := Op.fieldAddr 37 (Operand.tmp 4) 0, type := 0, pos := "ref.go:91", after := #[], guard := none }) (v := ?_) rfl (by kernel_rfl) (by kernel_rfl) (by kernel_rfl) (fun _ _ _ h => h) (Or.inl ⟨by rfl, ?_⟩) (by assumption) ?_
        rotate_left
        · intro w hSw
          clear hSw
          go_simp
          all_goals with_reducible rfl
        simp only [Act.put, List.setIfInBounds_toArray, List.set_cons_zero, List.set_cons_succ]
        refine wpAnyH_take (i := 1) (oi := { dst := some 44, op := Op.load 27 (Operand.tmp 43), type := 27, pos := "ref.go:91", after := #[{ on := 0, ground := Ground.data }], guard := none }) (v := ?_) rfl (by kernel_rfl) (by kernel_rfl) (by kernel_rfl) (fun _ _ _ h => h) (Or.inl ⟨by rfl, ?_⟩) (by assumption) ?_
        rotate_left
        · intro w hSw
          obtain ⟨f0, f1, f2⟩ := cells3 (hSw.row T0''.out (by omega))
          clear hSw
          go_simp
          all_goals with_reducible rfl
        simp only [Act.put, List.setIfInBounds_toArray, List.set_cons_zero, List.set_cons_succ]
        refine wpAnyH_take (i := 2) (oi := { dst := some 45, op := Op.fieldAddr 37 (Operand.tmp 5) 1, type := 0, pos := "ref.go:91", after := #[], guard := none }) (v := ?_) rfl (by kernel_rfl) (by kernel_rfl) (by kernel_rfl) (fun _ _ _ h => h) (Or.inl ⟨by rfl, ?_⟩) (by assumption) ?_
        rotate_left
        · intro w hSw
          clear hSw
          go_simp
          all_goals with_reducible rfl
        simp only [Act.put, List.setIfInBounds_toArray, List.set_cons_zero, List.set_cons_succ]
        refine wpAnyH_take (i := 3) (oi := { dst := some 46, op := Op.load 27 (Operand.tmp 45), type := 27, pos := "ref.go:91", after := #[{ on := 2, ground := Ground.data }], guard := none }) (v := ?_) rfl (by kernel_rfl) (by kernel_rfl) (by kernel_rfl) (fun _ _ _ h => h) (Or.inl ⟨by rfl, ?_⟩) (by assumption) ?_
        rotate_left
        · intro w hSw
          obtain ⟨f0, f1, f2⟩ := cells3 (hSw.row T1''.out (by omega))
          clear hSw
          go_simp
          all_goals with_reducible rfl
        simp only [Act.put, List.setIfInBounds_toArray, List.set_cons_zero, List.set_cons_succ]
        refine wpAnyH_take (i := 4) (oi := { dst := some 47, op := Op.move (Operand.tmp 0), type := 42, pos := "ref.go:91", after := #[], guard := none }) (v := ?_) rfl (by kernel_rfl) (by kernel_rfl) (by kernel_rfl) (fun _ _ _ h => h) (Or.inl ⟨by rfl, ?_⟩) (by assumption) ?_
        rotate_left
        · intro w hSw
          clear hSw
          go_simp
          all_goals with_reducible rfl
        simp only [Act.put, List.setIfInBounds_toArray, List.set_cons_zero, List.set_cons_succ]
        refine wpAnyH_take (i := 5) (oi := { dst := some 48, op := Op.fieldAddr 37 (Operand.tmp 4) 0, type := 0, pos := "ref.go:91", after := #[], guard := none }) (v := ?_) rfl (by kernel_rfl) (by kernel_rfl) (by kernel_rfl) (fun _ _ _ h => h) (Or.inl ⟨by rfl, ?_⟩) (by assumption) ?_
        rotate_left
        · intro w hSw
          clear hSw
          go_simp
          all_goals with_reducible rfl
        simp only [Act.put, List.setIfInBounds_toArray, List.set_cons_zero, List.set_cons_succ]
        refine wpAnyH_take (i := 6) (oi := { dst := some 49, op := Op.load 27 (Operand.tmp 48), type := 27, pos := "ref.go:91", after := #[{ on := 5, ground := Ground.data }], guard := none }) (v := ?_) rfl (by kernel_rfl) (by kernel_rfl) (by kernel_rfl) (fun _ _ _ h => h) (Or.inl ⟨by rfl, ?_⟩) (by assumption) ?_
        rotate_left
        · intro w hSw
          obtain ⟨f0, f1, f2⟩ := cells3 (hSw.row T0''.out (by omega))
          clear hSw
          go_simp
          all_goals with_reducible rfl
        simp only [Act.put, List.setIfInBounds_toArray, List.set_cons_zero, List.set_cons_succ]
        refine wpAnyH_take (i := 7) (oi := { dst := some 50, op := Op.fieldAddr 37 (Operand.tmp 5) 1, type := 0, pos := "ref.go:91", after := #[], guard := none }) (v := ?_) rfl (by kernel_rfl) (by kernel_rfl) (by kernel_rfl) (fun _ _ _ h => h) (Or.inl ⟨by rfl, ?_⟩) (by assumption) ?_
        rotate_left
        · intro w hSw
          clear hSw
          go_simp
          all_goals with_reducible rfl
        simp only [Act.put, List.setIfInBounds_toArray, List.set_cons_zero, List.set_cons_succ]
        refine wpAnyH_take (i := 8) (oi := { dst := some 51, op := Op.load 27 (Operand.tmp 50), type := 27, pos := "ref.go:91", after := #[{ on := 7, ground := Ground.data }], guard := none }) (v := ?_) rfl (by kernel_rfl) (by kernel_rfl) (by kernel_rfl) (fun _ _ _ h => h) (Or.inl ⟨by rfl, ?_⟩) (by assumption) ?_
        rotate_left
        · intro w hSw
          obtain ⟨f0, f1, f2⟩ := cells3 (hSw.row T1''.out (by omega))
          clear hSw
          go_simp
          all_goals with_reducible rfl
        simp only [Act.put, List.setIfInBounds_toArray, List.set_cons_zero, List.set_cons_succ]
        refine wpAnyH_take (i := 9) (oi := { dst := some 52, op := Op.move (Operand.tmp 8), type := 38, pos := "ref.go:91", after := #[], guard := none }) (v := ?_) rfl (by kernel_rfl) (by kernel_rfl) (by kernel_rfl) (fun _ _ _ h => h) (Or.inl ⟨by rfl, ?_⟩) (by assumption) ?_
        rotate_left
        · intro w hSw
          clear hSw
          go_simp
          all_goals with_reducible rfl
        simp only [Act.put, List.setIfInBounds_toArray, List.set_cons_zero, List.set_cons_succ]
        refine wpAnyH_take (i := 10) (oi := { dst := some 53, op := Op.move (Operand.tmp 9), type := 28, pos := "ref.go:91", after := #[], guard := none }) (v := ?_) rfl (by kernel_rfl) (by kernel_rfl) (by kernel_rfl) (fun _ _ _ h => h) (Or.inl ⟨by rfl, ?_⟩) (by assumption) ?_
        rotate_left
        · intro w hSw
          clear hSw
          go_simp
          all_goals with_reducible rfl
        simp only [Act.put, List.setIfInBounds_toArray, List.set_cons_zero, List.set_cons_succ]
        refine wpAnyH_ready (rs := [11]) (by kernel_rfl) (by simp) ?_
        refine AllReadyH.cons (o := { dst := some 54, op := Op.call { callee := Callee.value (Operand.func 43), args := #[Operand.tmp 47, Operand.tmp 49, Operand.tmp 51, Operand.tmp 52, Operand.tmp 53], argTypes := #[42, 27, 27, 38, 28] }, type := 28, pos := "ref.go:91", after := #[{ on := 4, ground := Ground.data }, { on := 6, ground := Ground.data }, { on := 8, ground := Ground.data }, { on := 9, ground := Ground.data }, { on := 10, ground := Ground.data }], guard := none }) rfl (fun K hK => ?_) AllReadyH.nil
        go_simp
        refine (rjoin_any a gh gT b e' (C.blocks b e ++ C.blocks e e') (hs ++ hs') (.slice so sn sc) (.slice (some ⟨g9b, 0, none⟩) hn c9b) Z0 (by have := H3.out; omega) H3.out.2.1 HTI.out (by rw [List.length_append, List.length_append, ← HN.out.1, ← HN.out.2, H3.out.2.2.1, H3.out.2.2.2]) (by rw [List.length_append]; have := C.blocks_len b e; have := C.blocks_len e e'; omega) NS''.out DC'.out (HH.out.below (B6.out.trans (CZ0.out.below w.heap.size B6.out.size (fun k hk e => by omega))) (Nat.le_refl _))).mono ?_
        rintro e Z1 ⟨⟨vj, rfl, hv⟩, hb2⟩
        rw [← HG.out] at hv
        obtain ⟨jo, jc, rfl⟩ := hv.form
        obtain ⟨jn, hjn⟩ : ∃ n, n = G.length := ⟨_, rfl⟩
        rw [← hjn] at hv ⊢
        have DJ := hide (hv.mono (Nat.le_trans B6.out.size CZ0.out.size))
        clear hv hjn
        replace T2''' : Hid (Z1.heap[w.heap.size + 2]? = some (.cells #[.int .u64 0, .int .u64 0, .slice none 0 0] 37 (0, 0))) := (hb2.block _ (block_lt_of_row T2'''.out)).trans T2'''.out
        replace NS'' : Hid (NAt Z1 (.slice so sn sc) (C.blocks b e ++ C.blocks e e')) := NS''.out.below hb2
        replace DC' : Hid (DgC Z1 (.slice (some ⟨g9b, 0, none⟩) hn c9b) (hs ++ hs')) := DC'.out.below hb2
        have CZ1 : Hid (Chg (fun k => k = w.heap.size + 2) W6 Z1) := CZ0.out.then hb2
        clear hb2 CZ0
        clear NS'' DC'
        clear hHeld
        refine hK.out _ _ CZ1.out (fun hHeld => ?_)
        clear hK K
        try simp only [Act.put, List.setIfInBounds_toArray, List.set_cons_zero, List.set_cons_succ]
        refine wpAnyH_ready (rs := [12]) (by kernel_rfl) (by simp) ?_
        refine step_build_as (o := { dst := some 55, op := Op.build 37 #[(0, Operand.tmp 44), (1, Operand.tmp 46), (2, Operand.tmp 54)], type := 37, pos := "ref.go:91", after := #[{ on := 1, ground := Ground.data }, { on := 3, ground := Ground.data }, { on := 11, ground := Ground.data }], guard := none }) rfl rfl 37 [(0, .tmp 44), (1, .tmp 46), (2, .tmp 54)] rfl [(0, .int .u64 (b : Int)), (1, .int .u64 (e' : Int)), (2, .slice jo jn jc)] rfl ((.agg #[.int .u64 (b : Int), .int .u64 (e' : Int), .slice jo jn jc])) (build37 _ _ jo jn jc Z1) AllReadyH.nil ⟨CZ1.out, fun hHeld => ?_⟩
        simp only [Act.put, List.setIfInBounds_toArray, List.set_cons_zero, List.set_cons_succ]
        refine wpAnyH_ready (rs := [13]) (by kernel_rfl) (by simp) ?_
        obtain ⟨Z2, hst, r6, b6⟩ := store_rr (x := .int .u64 (b : Int)) (y := .int .u64 (e' : Int)) (z := .slice jo jn jc) T2'''.out rfl rfl rfl (Nat.le_add_right w.heap.size 2) (B6.out.trans (CZ1.out.below w.heap.size B6.out.size (fun k hk e => by omega)))
        have hcg := store_chg hst T2'''.out
        refine step_store_as (o := { dst := none, op := Op.store 37 (Operand.tmp 6) (Operand.tmp 55), type := 0, pos := "ref.go:91", after := #[{ on := 12, ground := Ground.data }, { on := 11, ground := Ground.chain }, { on := 0, ground := Ground.phase }, { on := 1, ground := Ground.phase }, { on := 2, ground := Ground.phase }, { on := 3, ground := Ground.phase }, { on := 4, ground := Ground.phase }, { on := 5, ground := Ground.phase }, { on := 6, ground := Ground.phase }, { on := 7, ground := Ground.phase }, { on := 8, ground := Ground.phase }, { on := 9, ground := Ground.phase }, { on := 10, ground := Ground.phase }, { on := 11, ground := Ground.phase }, { on := 12, ground := Ground.phase }], guard := none }) rfl rfl 37 (.tmp 6) (.tmp 55) rfl _ _ rfl rfl Z2 hst AllReadyH.nil ⟨CZ1.out.trans hcg (fun k hk e => e), fun hHeld => ?_⟩
        have RF := hide r6
        have BF := hide b6
        have DJF := hide (Rw.chg (el := 23) DJ.out hcg (fun j hj e => (Rw.apart (el := 23) DJ.out T2'''.out (by decide)) (by rw [← e]; exact hj)))
        have CZ2 : Hid True := trivial
        clear hst r6 b6 hcg
        simp only [Act.put]
        refine wpAnyH_take (i := 14) (oi := { dst := some 7, op := Op.assign (Operand.const (Value.int IntKind.i64 0)), type := 3, pos := "ref.go:91", after := #[{ on := 13, ground := Ground.chain }, { on := 0, ground := Ground.phase }, { on := 1, ground := Ground.phase }, { on := 2, ground := Ground.phase }, { on := 3, ground := Ground.phase }, { on := 4, ground := Ground.phase }, { on := 5, ground := Ground.phase }, { on := 6, ground := Ground.phase }, { on := 7, ground := Ground.phase }, { on := 8, ground := Ground.phase }, { on := 9, ground := Ground.phase }, { on := 10, ground := Ground.phase }, { on := 11, ground := Ground.phase }, { on := 12, ground := Ground.phase }, { on := 13, ground := Ground.phase }], guard := none }) (v := ?_) rfl (by kernel_rfl) (by kernel_rfl) (by kernel_rfl) (fun _ _ _ h => h) (Or.inl ⟨by rfl, ?_⟩) (by assumption) ?_
        rotate_left
        · intro w hSw
          clear hSw
          go_simp
          all_goals with_reducible rfl
        simp only [Act.put, List.setIfInBounds_toArray, List.set_cons_zero, List.set_cons_succ]
        refine wpAnyH_done (by kernel_rfl) ?_ _
        refine NoPanic.normal ?_
        clear hHeld
        go_wp2_with fail
        exact bodyPost_ret (v := .tuple #[.agg #[.int .u64 (b : Int), .int .u64 (e' : Int), .slice jo jn jc], .int .i64 0]) (results_rt Tryd.results22 _ _ (w.heap.size + 2) _ rfl (var37 RF.out)) rfl ⟨⟨_, by rw [hA2.out]; rfl, by rw [hA2.out]; exact DJF.out⟩, BF.out⟩
      · have hA2 := hide (show A = C.no25 by rw [HA.out, C.mergeA, if_pos ⟨by rw [← HN.out.1]; exact hr1, by rw [← HN.out.2]; exact hr2⟩, if_neg hm])
        have q1 : ((e : Int) != (b' : Int)) = true := by simp; omega
        have q1' : ¬ (e : Int) = (b' : Int) := by omega
        obtain ⟨YF, hsf, rf, bf⟩ := store_rr (x := .int .u64 0) (y := .int .u64 0) (z := .slice none 0 0) T2.out rfl rfl rfl (Nat.le_add_right w.heap.size 2) B4.out
        have RF := hide rf
        have BF := hide bf
        clear rf bf hr1 hr2 t1 t2 t3 s1 s2 s3
        go_wp2_with (with_reducible refine at_op { dst := none, op := Op.store 37 (Operand.tmp 6) (Operand.tmp 24), type := 0, pos := "ref.go:87", after := #[{ on := 0, ground := Ground.data }, { on := 0, ground := Ground.phase }], guard := none } ?_; refine wpList_store_as rfl 37 (.tmp 6) (.tmp 24) rfl (.pointer (some ⟨w.heap.size + 1 + 1, 0, none⟩)) (.agg #[.int .u64 0, .int .u64 0, .slice none 0 0]) rfl rfl YF hsf ?_)
        exact bodyPost_ret (v := .tuple #[.agg #[.int .u64 0, .int .u64 0, .slice none 0 0], .int .i64 25]) (results_rt Tryd.results22 _ _ (w.heap.size + 2) _ rfl (var37 RF.out)) rfl ⟨⟨_, by rw [hA2.out]; rfl, by rw [hA2.out]; exact DgRow.nil _ _⟩, BF.out⟩
    · have hA2 := hide (show A = C.no1 by rw [HA.out, C.mergeA, if_neg (by rw [← HN.out.2]; exact fun c => hr2 c.2)])
      rw [show S.right b' e' M = false by simpa using hr2]
      obtain ⟨YF, hsf, rf, bf⟩ := store_rr (x := .int .u64 0) (y := .int .u64 0) (z := .slice none 0 0) T2.out rfl rfl rfl (Nat.le_add_right w.heap.size 2) B4.out
      have RF := hide rf
      have BF := hide bf
      clear rf bf hr1 hr2
      go_wp2_with (with_reducible refine at_op { dst := none, op := Op.store 37 (Operand.tmp 6) (Operand.tmp 18), type := 0, pos := "ref.go:84", after := #[{ on := 0, ground := Ground.data }, { on := 0, ground := Ground.phase }], guard := none } ?_; refine wpList_store_as rfl 37 (.tmp 6) (.tmp 18) rfl (.pointer (some ⟨w.heap.size + 1 + 1, 0, none⟩)) (.agg #[.int .u64 0, .int .u64 0, .slice none 0 0]) rfl rfl YF hsf ?_)
      exact bodyPost_ret (v := .tuple #[.agg #[.int .u64 0, .int .u64 0, .slice none 0 0], .int .i64 1]) (results_rt Tryd.results22 _ _ (w.heap.size + 2) _ rfl (var37 RF.out)) rfl ⟨⟨_, by rw [hA2.out]; rfl, by rw [hA2.out]; exact DgRow.nil _ _⟩, BF.out⟩
  · have hA2 := hide (show A = C.no1 by rw [HA.out, C.mergeA, if_neg (by rw [← HN.out.1]; exact fun c => hr1 c.1)])
    rw [show S.right b e N = false by simpa using hr1]
    obtain ⟨YF, hsf, rf, bf⟩ := store_rr (x := .int .u64 0) (y := .int .u64 0) (z := .slice none 0 0) S2.out rfl rfl rfl (Nat.le_add_right w.heap.size 2) B3.out
    have RF := hide rf
    have BF := hide bf
    clear rf bf hr1 
    go_wp2_with (with_reducible refine at_op { dst := none, op := Op.store 37 (Operand.tmp 6) (Operand.tmp 18), type := 0, pos := "ref.go:84", after := #[{ on := 0, ground := Ground.data }, { on := 0, ground := Ground.phase }], guard := none } ?_; refine wpList_store_as rfl 37 (.tmp 6) (.tmp 18) rfl (.pointer (some ⟨w.heap.size + 1 + 1, 0, none⟩)) (.agg #[.int .u64 0, .int .u64 0, .slice none 0 0]) rfl rfl YF hsf ?_)
    exact bodyPost_ret (v := .tuple #[.agg #[.int .u64 0, .int .u64 0, .slice none 0 0], .int .i64 1]) (results_rt Tryd.results22 _ _ (w.heap.size + 2) _ rfl (var37 RF.out)) rfl ⟨⟨_, by rw [hA2.out]; rfl, by rw [hA2.out]; exact DgRow.nil _ _⟩, BF.out⟩
end Go.Proofs.YtkljajfgdelfgaaDoor
