/- Two ranges side by side are put together. -/
import Derived.Test.YtkljajfgdelfgaaDoorFe
import Derived.Test.YtkljajfgdelfgaaDoorMc
namespace Go.Proofs.YtkljajfgdelfgaaDoor
open Go.RowKit

theorem bs111two (W : World) (a b : Option Addr) (i j k l : Nat) : (Instr.buildSlice 111 2 #[(0, .slice a i j), (1, .slice b k l)]).run Tryd.prog W = .ok (.slice (some ⟨W.heap.size, 0, none⟩) 2 2) (W.alloc (.cells #[.slice a i j, .slice b k l] 90)) := by
  go_simp
theorem Rw.room {α : Type} {el : TypeId} {k : Nat} {enc : α → List Value} {B : Nat} {w : World} {ao : Option Addr} {n cap : Nat} {xs : List α} (h : Rw el k enc B w (.slice ao n cap) xs) (hp : 0 < xs.length) : ∃ g, ao = some ⟨g, 0, none⟩ ∧ n = xs.length ∧ xs.length ≤ cap ∧ cap ≤ maxLen ∧ B ≤ g ∧ g < w.heap.size := by
  rcases h.2 with ⟨e, h0⟩ | ⟨g, cap', cur, e, hB, hr, q1, q2, q3, q4⟩
  · omega
  · simp only [Value.slice.injEq] at e
    obtain ⟨rfl, rfl, rfl⟩ := e
    exact ⟨g, rfl, rfl, q1, q2, hB, block_lt_of_row hr⟩
theorem size93l (x : C.Bk (List UInt8)) (hx : x.h.length = 32) : (Tryd.prog.info? 93).map (·.size) = some (encB x).length := by rw [size93 x hx, List.size_toArray]
theorem load_bk {w : World} {g o : Nat} {x : C.Bk (List UInt8)} (h : w.rangeAt g o (encB x)) (hx : x.h.length = 32) : (Instr.loadAt 93 (.pointer (some ⟨g, o, none⟩))).run Tryd.prog w = .ok (.agg (encB x).toArray) w :=
  run_loadAt_mid (P := Tryd.prog) w g o 93 (encB x) _ h Tryd.underlying93 rfl (size93l x hx)
theorem load_dmid {w : World} {g o : Nat} {d : List UInt8} (h : w.rangeAt g o (S.v8l d)) (hd : d.length = 32) : (Instr.loadAt 23 (.pointer (some ⟨g, o, none⟩))).run Tryd.prog w = .ok (.agg (S.v8 d)) w := by
  rw [S.v8_eq]
  exact run_loadAt_mid (P := Tryd.prog) w g o 23 (S.v8l d) _ h Tryd.underlying23 rfl (by rw [S.v8l_length, hd]; exact size23)
theorem below_range {n : Nat} {w W : World} {g o : Nat} {cs : List Value} (hb : Below n w W) (hg : g < n) (h : w.rangeAt g o cs) : W.rangeAt g o cs := fun j u hu => (hb.cell (p := ⟨g, o + j, none⟩) hg).trans (h j u hu)
/-- The hashes of a range that lies in memory are others. -/
theorem store28 {w : World} {g : Nat} {a b c : Value} (ao : Option Addr) (n cap : Nat) (h : w.heap[g]? = some (.cells #[a, b, c] 30 (0, 0))) :
    ∃ w', (Instr.storeAt 28 (.pointer (some ⟨g, 2, none⟩)) (.slice ao n cap)).run Tryd.prog w = .ok () w' ∧ w'.heap[g]? = some (.cells #[a, b, .slice ao n cap] 30 (0, 0)) ∧ Chg (fun k => k = g) w w' ∧ w'.heap.size = w.heap.size := by
  obtain ⟨c0, c1, c2⟩ := cells3 h
  have hf : w.frozen? ⟨g, 2, none⟩ = false := by simp [World.frozen?, h]
  refine ⟨w.setCell ⟨g, 2, none⟩ (.slice ao n cap), by go_simp, ?_, (Chg.refl _ _).setCell g 2 _ (fun _ => rfl), by simp⟩
  rw [heap_setCell_same _ _ _ _ _ _ h]
  rfl
/-- A range is stored where another one lay. -/
theorem store_rg {w : World} {g : Nat} {a b c x y z : Value} (h : w.heap[g]? = some (.cells #[a, b, c] 30 (0, 0))) (hx : x.oneCell' = true) (hy : y.oneCell' = true) (hz : z.oneCell' = true) :
    ∃ w', (Instr.storeAt 30 (.pointer (some ⟨g, 0, none⟩)) (.agg #[x, y, z])).run Tryd.prog w = .ok () w' ∧ w'.heap[g]? = some (.cells #[x, y, z] 30 (0, 0)) ∧ Chg (fun k => k = g) w w' ∧ w'.heap.size = w.heap.size := by
  have hr := run_storeVar_row (P := Tryd.prog) w g 30 30 #[a, b, c] #[x, y, z] h (size30 x y z) rfl (all_oneCell_toArray (cs := [x, y, z]) (fun v hv => by simp only [List.mem_cons, List.not_mem_nil, or_false] at hv; rcases hv with rfl | rfl | rfl <;> assumption))
  refine ⟨w.setRow g #[x, y, z], ?_, setRow_heap _ _ _ _ _ _ h, ?_, ?_⟩
  · simp only [Instr.storeAt, Instr.sureAddr, Sem.run_bind, Sem.run_pure, Result.andThen_ok, hr]
  · exact ⟨rfl, rfl, rfl, by simp, fun k _ hk => setRow_other _ _ _ _ hk⟩
  · simp
set_option maxHeartbeats 40000000 in
set_option maxRecDepth 10000 in
theorem joined_any (a : Int) (p m e : Nat) (u1 u2 : Value) (ha hb : List (List UInt8)) (w : World) (hpm : p ≤ m) (hme : m ≤ e) (he : e ≤ 4294967296) (hu1 : DgAt w u1 ha) (hu2 : DgAt w u2 hb) (hl1 : ha.length = (C.blocks p m).length) (hl2 : hb.length = (C.blocks m e).length) (hK : KAt w) :
   Calls Tryd.prog 38 #[.int .i64 a, .agg #[.int .u64 (p : Int), .int .u64 (m : Int), u1], .agg #[.int .u64 (m : Int), .int .u64 (e : Int), u2]] w fun r w' => (∃ v, r = .returned (.agg #[.int .u64 (p : Int), .int .u64 (e : Int), v]) ∧ DgRow w.heap.size w' v (C.glue (S.node a) [] p m e ha hb)) ∧ Below w.heap.size w w' := by
  obtain ⟨G, hG⟩ : ∃ G, G = C.glue (S.node a) [] p m e ha hb := ⟨_, rfl⟩
  rw [← hG]
  obtain ⟨uo, uc, rfl⟩ := hu1.form
  obtain ⟨vo, vc, rfl⟩ := hu2.form
  have a32 : ∀ d ∈ ha, d.length = 32 := by obtain ⟨_, _, _, _, h, _⟩ := hu1; exact h
  have b32 : ∀ d ∈ hb, d.length = 32 := by obtain ⟨_, _, _, _, h, _⟩ := hu2; exact h
  have t1 := C.blocks_tiles _ p m rfl hpm (by omega)
  have t2 := C.blocks_tiles _ m e rfl hme he
  have t3 := C.tiles_append _ _ _ _ _ t1 t2
  have hlab : (ha ++ hb).length = (C.blocks p m ++ C.blocks m e).length := by rw [List.length_append, List.length_append, hl1, hl2]
  have hLM : C.mkB p (C.blocks p m) ha ++ C.mkB m (C.blocks m e) hb = C.mkB p (C.blocks p m ++ C.blocks m e) (ha ++ hb) := (C.mkB_append _ _ _ _ _ _ t1 hl1).symm
  have hI0 := C.Inv.start (S.node a) [] p e (C.blocks p m ++ C.blocks m e) (ha ++ hb) t3 hlab
  have L1 := C.blocks_len p m
  have L2 := C.blocks_len m e
  have hxa : (C.mkB p (C.blocks p m) ha).length = (C.blocks p m).length := C.mkB_length _ _ _ hl1
  have hxb : (C.mkB m (C.blocks m e) hb).length = (C.blocks m e).length := C.mkB_length _ _ _ hl2
  have xa32 := mkB_len32 (C.blocks p m) ha p a32
  have xb32 := mkB_len32 (C.blocks m e) hb m b32
  obtain ⟨N, hN⟩ : ∃ N, N = (C.blocks p m ++ C.blocks m e).length := ⟨_, rfl⟩
  have hN128 : N ≤ 128 := by rw [hN, List.length_append]; omega
  have HU1 := hide hu1
  have HU2 := hide hu2
  have HL1 := hide hl1
  have HL2 := hide hl2
  have HI0 := hide hI0
  have HLM := hide hLM
  have HXA := hide (And.intro hxa L1)
  have HXB := hide (And.intro hxb L2)
  have XA32 := hide xa32
  have XB32 := hide xb32
  have HN := hide hN
  have HG := hide hG
  have HLAB := hide hlab
  have HK := hide hK
  have h0 := hK.pos
  obtain ⟨n1, hn1⟩ : ∃ n, n = ha.length := ⟨_, rfl⟩
  obtain ⟨n2, hn2⟩ : ∃ n, n = hb.length := ⟨_, rfl⟩
  rw [← hn1] at HU1 ⊢
  rw [← hn2] at HU2 ⊢
  obtain ⟨xs, hxs⟩ : ∃ xs, xs = C.mkB p (C.blocks p m) ha := ⟨_, rfl⟩
  obtain ⟨ys, hys⟩ : ∃ ys, ys = C.mkB m (C.blocks m e) hb := ⟨_, rfl⟩
  rw [← hxs] at HXA HLM XA32
  rw [← hys] at HXB HLM XB32
  have HXS := hide hxs
  have HYS := hide hys
  clear hu1 hu2 a32 b32 t1 t2 t3 hl1 hl2 hI0 hLM hxa hxb L1 L2 xa32 xb32 hN hG hlab hK hn1 hn2 hxs hys
  go_enter Tryd.func38, Tryd.ntmps38
  go_upto_region 2 with fail
  generalize hW0 : w.alloc _ = W0
  generalize hW1 : W0.alloc _ = W1
  generalize hW2 : W1.alloc _ = W2
  have B0 : Below w.heap.size w W0 := by rw [← hW0]; exact (Below.refl _ _).alloc (Nat.le_refl _) _
  have s0 : W0.heap.size = w.heap.size + 1 := by rw [← hW0]; simp
  have r0 : W0.heap[w.heap.size]? = some (.cells #[.int .u64 (p : Int), .int .u64 (m : Int), .slice uo n1 uc] 30 (0, 0)) := by rw [← hW0]; exact heap_alloc_new _ _
  have B1 : Below W0.heap.size W0 W1 := by rw [← hW1]; exact (Below.refl _ _).alloc (Nat.le_refl _) _
  have s1 : W1.heap.size = w.heap.size + 2 := by rw [← hW1]; simp [s0]
  have r1 : W1.heap[w.heap.size + 1]? = some (.cells #[.int .u64 (m : Int), .int .u64 (e : Int), .slice vo n2 vc] 30 (0, 0)) := by rw [← hW1, ← s0]; exact heap_alloc_new _ _
  have B2 : Below W1.heap.size W1 W2 := by rw [← hW2]; exact (Below.refl _ _).alloc (Nat.le_refl _) _
  have s2 : W2.heap.size = w.heap.size + 3 := by rw [← hW2]; simp [s1]
  have r2 : W2.heap[w.heap.size + 2]? = some (.cells #[.int .u64 0, .int .u64 0, .slice none 0 0] 30 (0, 0)) := by rw [← hW2, ← s1]; exact heap_alloc_new _ _
  have BB : Hid (Below w.heap.size w W2) := ((B0.trans (B1.mono (by omega))).trans (B2.mono (by omega)))
  have Q0 : Hid (W2.heap[w.heap.size]? = some (.cells #[.int .u64 (p : Int), .int .u64 (m : Int), .slice uo n1 uc] 30 (0, 0))) := ((B2.block _ (by omega)).trans ((B1.block _ (by omega)).trans r0))
  have Q1 : Hid (W2.heap[w.heap.size + 1]? = some (.cells #[.int .u64 (m : Int), .int .u64 (e : Int), .slice vo n2 vc] 30 (0, 0))) := ((B2.block _ (by omega)).trans r1)
  have Q2 : Hid (W2.heap[w.heap.size + 2]? = some (.cells #[.int .u64 0, .int .u64 0, .slice none 0 0] 30 (0, 0))) := r2
  clear hW0 B0 s0 r0 hW1 B1 s1 r1 hW2 B2 s2 r2
  refine wp_region_noPanic ?_
  refine wp_region_held_drew (S := (fun W => Chg (fun _ => False) W2 W)) follows ((Chg.refl _ _).drew) (fun hHeld => ?_)
  clear hHeld
  have hHeld : Chg (fun _ => False) W2 W2.drew := (Chg.refl _ _).drew
  have CZ0 := hide hHeld
  generalize W2.drew = Z0 at CZ0 hHeld ⊢
  refine wpAnyH_take (i := 0) (oi := { dst := some 14, op := Op.load 30 (Operand.tmp 4), type := 30, pos := "block.go:59", after := #[], guard := none }) (v := ?_) rfl (by kernel_rfl) (by kernel_rfl) (by kernel_rfl) (fun _ _ _ h => h) (Or.inl ⟨by rfl, ?_⟩) (by assumption) ?_
  rotate_left
  · intro w hSw
    obtain ⟨c0, c1, c2⟩ := cells3 (hSw.row Q0.out (fun e => e))
    clear hSw
    go_simp
    all_goals with_reducible rfl
  simp only [Act.put, List.setIfInBounds_toArray, List.set_cons_zero, List.set_cons_succ]
  refine wpAnyH_take (i := 2) (oi := { dst := some 16, op := Op.load 30 (Operand.tmp 5), type := 30, pos := "block.go:59", after := #[], guard := none }) (v := ?_) rfl (by kernel_rfl) (by kernel_rfl) (by kernel_rfl) (fun _ _ _ h => h) (Or.inl ⟨by rfl, ?_⟩) (by assumption) ?_
  rotate_left
  · intro w hSw
    obtain ⟨c0, c1, c2⟩ := cells3 (hSw.row Q1.out (fun e => e))
    clear hSw
    go_simp
    all_goals with_reducible rfl
  simp only [Act.put, List.setIfInBounds_toArray, List.set_cons_zero, List.set_cons_succ]
  refine wpAnyH_take (i := 7) (oi := { dst := some 21, op := Op.move (Operand.const (Value.int IntKind.i64 0)), type := 3, pos := "block.go:59", after := #[], guard := none }) (v := ?_) rfl (by kernel_rfl) (by kernel_rfl) (by kernel_rfl) (fun _ _ _ h => h) (Or.inl ⟨by rfl, ?_⟩) (by assumption) ?_
  rotate_left
  · intro w hSw
    clear hSw
    go_simp
    all_goals with_reducible rfl
  simp only [Act.put, List.setIfInBounds_toArray, List.set_cons_zero, List.set_cons_succ]
  refine wpAnyH_ready (rs := [1]) (by kernel_rfl) (by simp) ?_
  refine AllReadyH.cons (o := { dst := some 15, op := Op.call { callee := Callee.value (Operand.func 53), args := #[Operand.tmp 14], argTypes := #[30] }, type := 90, pos := "block.go:59", after := #[{ on := 0, ground := Ground.data }], guard := none }) rfl (fun K hK => ?_) AllReadyH.nil
  go_simp
  refine (blocksOf_any p m (.slice uo n1 uc) ha Z0 hpm (by omega) (HU1.out.below (BB.out.trans (CZ0.out.below w.heap.size BB.out.size (fun k hk e => by omega)))) HL1.out).mono ?_
  rintro e Z1 ⟨⟨va, rfl, hva⟩, hb2⟩
  rw [← HXS.out] at hva
  obtain ⟨ro, rc, rfl⟩ := hva.form
  obtain ⟨rn, hrn⟩ : ∃ n, n = (xs).length := ⟨_, rfl⟩
  rw [← hrn] at hva ⊢
  have XA := hide (hva.mono CZ0.out.size)
  have HRN := hide hrn
  clear hva hrn
  have CZ1 : Hid (Chg (fun _ => False) W2 Z1) := CZ0.out.then hb2
  clear hb2 CZ0
  clear hHeld
  refine hK.out _ _ CZ1.out (fun hHeld => ?_)
  clear hK K
  try simp only [Act.put, List.setIfInBounds_toArray, List.set_cons_zero, List.set_cons_succ]
  refine wpAnyH_ready (rs := [3]) (by kernel_rfl) (by simp) ?_
  refine AllReadyH.cons (o := { dst := some 17, op := Op.call { callee := Callee.value (Operand.func 53), args := #[Operand.tmp 16], argTypes := #[30] }, type := 90, pos := "block.go:59", after := #[{ on := 2, ground := Ground.data }, { on := 1, ground := Ground.chain }], guard := none }) rfl (fun K hK => ?_) AllReadyH.nil
  go_simp
  refine (blocksOf_any m e (.slice vo n2 vc) hb Z1 hme he (HU2.out.below (BB.out.trans (CZ1.out.below w.heap.size BB.out.size (fun k hk e => by omega)))) HL2.out).mono ?_
  rintro e Z2 ⟨⟨vb, rfl, hvb⟩, hb2⟩
  rw [← HYS.out] at hvb
  obtain ⟨po, pc, rfl⟩ := hvb.form
  obtain ⟨pn, hpn⟩ : ∃ n, n = (ys).length := ⟨_, rfl⟩
  rw [← hpn] at hvb ⊢
  have XB := hide (hvb.mono CZ1.out.size)
  have HPN := hide hpn
  clear hvb hpn
  replace XA : Hid (BRow W2.heap.size Z2 (.slice ro rn rc) xs) := XA.out.below hb2
  have CZ2 : Hid (Chg (fun _ => False) W2 Z2) := CZ1.out.then hb2
  clear hb2 CZ1
  clear hHeld
  refine hK.out _ _ CZ2.out (fun hHeld => ?_)
  clear hK K
  try simp only [Act.put, List.setIfInBounds_toArray, List.set_cons_zero, List.set_cons_succ]
  refine wpAnyH_ready (rs := [4]) (by kernel_rfl) (by simp) ?_
  refine step_buildSlice_as (o := { dst := some 18, op := Op.buildSlice 111 2 #[(0, Operand.tmp 15), (1, Operand.tmp 17)], type := 111, pos := "block.go:59", after := #[{ on := 1, ground := Ground.data }, { on := 3, ground := Ground.data }], guard := none }) rfl rfl 111 2 [(0, .tmp 15), (1, .tmp 17)] rfl [(0, .slice ro rn rc), (1, .slice po pn pc)] rfl _ _ (bs111two Z2 _ _ _ _ _ _) AllReadyH.nil ⟨CZ2.out.alloc _, fun hHeld => ?_⟩
  clear hHeld
  simp only [Act.put, List.setIfInBounds_toArray, List.set_cons_zero, List.set_cons_succ]
  obtain ⟨gl, hgl⟩ : ∃ gg, gg = Z2.heap.size := ⟨_, rfl⟩
  rw [← hgl]
  generalize hZ : Z2.alloc _ = Z3
  have hb2 : Below Z2.heap.size Z2 Z3 := by rw [← hZ]; exact (Below.refl _ _).alloc (Nat.le_refl _) _
  have Rgl : Hid (Z3.heap[gl]? = some (.cells #[.slice ro rn rc, .slice po pn pc] 90 (0, 0))) := by rw [← hZ, hgl]; exact heap_alloc_new _ _
  have Ggl := hide (show W2.heap.size ≤ gl by rw [hgl]; exact CZ2.out.size)
  clear hZ hgl
  replace XA : Hid (BRow W2.heap.size Z3 (.slice ro rn rc) xs) := XA.out.below hb2
  replace XB : Hid (BRow W2.heap.size Z3 (.slice po pn pc) ys) := XB.out.below hb2
  have CZ3 : Hid (Chg (fun _ => False) W2 Z3) := CZ2.out.then hb2
  clear hb2 CZ2
  have hHeld := CZ3.out
  refine wpAnyH_ready (rs := [5]) (by kernel_rfl) (by simp) ?_
  refine AllReadyH.cons (o := { dst := some 19, op := Op.call { callee := Callee.value (Operand.func 52), args := #[Operand.tmp 18], argTypes := #[111] }, type := 90, pos := "block.go:59", after := #[{ on := 4, ground := Ground.data }, { on := 3, ground := Ground.chain }], guard := none }) rfl (fun K hK => ?_) AllReadyH.nil
  go_simp
  refine (concat_two gl ro po rc pc W2.heap.size W2.heap.size xs ys Z3 (by rw [← HRN.out, ← HPN.out]; exact Rgl.out) (by rw [← HRN.out]; exact XA.out) (by rw [← HPN.out]; exact XB.out) (by have := HXA.out; omega) (by have := HXB.out; omega) XA32.out XB32.out).mono ?_
  rintro e Z4 ⟨⟨vt, rfl, hvt⟩, hb2⟩
  obtain ⟨co, cc, rfl⟩ := hvt.form
  obtain ⟨cn, hcn⟩ : ∃ n, n = (xs ++ ys).length := ⟨_, rfl⟩
  rw [← hcn] at hvt ⊢
  have XC := hide (hvt.mono CZ3.out.size)
  have HCN := hide hcn
  clear hvt hcn
  replace Rgl : Hid (Z4.heap[gl]? = some (.cells #[.slice ro rn rc, .slice po pn pc] 90 (0, 0))) := (hb2.block _ (block_lt_of_row Rgl.out)).trans Rgl.out
  replace XA : Hid (BRow W2.heap.size Z4 (.slice ro rn rc) xs) := XA.out.below hb2
  replace XB : Hid (BRow W2.heap.size Z4 (.slice po pn pc) ys) := XB.out.below hb2
  have CZ4 : Hid (Chg (fun _ => False) W2 Z4) := CZ3.out.then hb2
  clear hb2 CZ3
  clear hHeld
  refine hK.out _ _ CZ4.out (fun hHeld => ?_)
  clear hK K
  try simp only [Act.put, List.setIfInBounds_toArray, List.set_cons_zero, List.set_cons_succ]
  refine wpAnyH_take (i := 6) (oi := { dst := some 20, op := Op.call { callee := Callee.builtin Builtin.len, args := #[Operand.tmp 19], argTypes := #[90] }, type := 3, pos := "block.go:59", after := #[{ on := 5, ground := Ground.data }], guard := none }) (v := ?_) rfl (by kernel_rfl) (by kernel_rfl) (by kernel_rfl) (fun _ _ _ h => h) (Or.inl ⟨by rfl, ?_⟩) (by assumption) ?_
  rotate_left
  · intro w hSw
    clear hSw
    go_simp
    all_goals with_reducible rfl
  simp only [Act.put, List.setIfInBounds_toArray, List.set_cons_zero, List.set_cons_succ]
  refine wpAnyH_done (by kernel_rfl) ?_ _
  refine NoPanic.normal ?_
  clear hHeld XA XB Rgl Ggl
  obtain ⟨ZC, hZC⟩ : ∃ Z, Z = Z4 := ⟨_, rfl⟩
  rw [← hZC] at CZ4 XC ⊢
  have CZC := CZ4
  clear hZC CZ4
  have HCAT := hide (show BRow W2.heap.size ZC (.slice co cn cc) (C.mkB p (C.blocks p m ++ C.blocks m e) (ha ++ hb)) by rw [← HLM.out]; exact XC.out)
  obtain rfl : cn = N := by
    have h1 := HCN.out
    have h2 := congrArg List.length HLM.out
    rw [C.mkB_length _ _ _ HLAB.out, ← HN.out] at h2
    omega
  have L32 := hide (show ∀ x ∈ C.mkB p (C.blocks p m ++ C.blocks m e) (ha ++ hb), x.h.length = 32 by
    rw [← HLM.out]
    intro x hx
    rcases List.mem_append.1 hx with hx | hx
    · exact XA32.out x hx
    · exact XB32.out x hx)
  have hR2 := hide (show W2.heap.size ≤ ZC.heap.size from CZC.out.size)
  have hw2 : w.heap.size + 2 < W2.heap.size := block_lt_of_row Q2.out
  clear XC HXA HXB HLM XA32 XB32 HCN HL1 HL2 HU1 HU2 HXS HYS
  go_wp2_with fail
  go_loopg [7, 21] cn (fun gk s7 s21 wr => ∃ (k : Nat) (st : List (C.Bk (List UInt8))), k + gk = cn ∧ s21 = .int .i64 (k : Int) ∧ Hid (C.Inv (S.node a) [] p e (C.blocks p m ++ C.blocks m e) (ha ++ hb) k st) ∧ Hid (∀ f ∈ st, f.h.length = 32) ∧ Hid (BRow ZC.heap.size wr s7 st.reverse) ∧ Hid (Below ZC.heap.size ZC wr))
  case atStart => exact ⟨0, [], by omega, rfl, HI0, hide (fun x hx => by simp at hx), Rw.nil _ _ _ _ _, Below.refl _ _⟩
  case round =>
    clear HI0
    obtain ⟨k, st, hk, rfl, HI, S32, HR, BR⟩ := hrel
    obtain ⟨so, sc, rfl⟩ := HR.out.form
    cases gk with
    | zero =>
      have hkM : k = cn := by omega
      have qk : ¬ (k : Int) < (cn : Int) := by omega
      have hst : st.reverse.map (·.h) = G := by rw [HG.out]; exact C.Inv.done (S.node a) [] HI.out he (by rw [hkM]; exact HN.out) HLAB.out
      have hsl : st.reverse.length ≤ 128 := by rw [List.length_reverse]; have := HI.out.1; omega
      have HST := hide hst
      have R32 := hide (show ∀ f ∈ st.reverse, f.h.length = 32 from fun f hf => S32.out f (List.mem_reverse.1 hf))
      obtain ⟨rs, hrs⟩ : ∃ rs, rs = st.reverse := ⟨_, rfl⟩
      rw [← hrs] at HST R32 HR hsl ⊢
      obtain ⟨M, hM⟩ : ∃ M, M = rs.length := ⟨_, rfl⟩
      rw [← hM] at HR hsl ⊢
      have HM := hide hM
      clear hkM hk hst hrs hM HI S32
      have QA : Hid (wr.heap[w.heap.size]? = some (.cells #[.int .u64 (p : Int), .int .u64 (m : Int), .slice uo n1 uc] 30 (0, 0))) := (BR.out.block _ (by have := hR2.out; omega)).trans (CZC.out.row Q0.out (fun e => e))
      have QB : Hid (wr.heap[w.heap.size + 1]? = some (.cells #[.int .u64 (m : Int), .int .u64 (e : Int), .slice vo n2 vc] 30 (0, 0))) := (BR.out.block _ (by have := hR2.out; omega)).trans (CZC.out.row Q1.out (fun e => e))
      have QC : Hid (wr.heap[w.heap.size + 2]? = some (.cells #[.int .u64 0, .int .u64 0, .slice none 0 0] 30 (0, 0))) := (BR.out.block _ (by have := hR2.out; omega)).trans (CZC.out.row Q2.out (fun e => e))
      have BWR := hide ((BB.out.trans (CZC.out.below w.heap.size BB.out.size (fun _ _ e => e))).trans (BR.out.mono (Nat.le_trans BB.out.size hR2.out)))
      obtain ⟨a0, a1, a2⟩ := cells3 QA.out
      obtain ⟨b0, b1, b2⟩ := cells3 QB.out
      go_upto_region 12 with fail
      generalize hW5 : wr.alloc _ = W5
      obtain ⟨gr, hgr⟩ : ∃ g, g = wr.heap.size := ⟨_, rfl⟩
      have b5 : Below wr.heap.size wr W5 := by rw [← hW5]; exact (Below.refl _ _).alloc (Nat.le_refl _) _
      have RR : Hid (W5.heap[gr]? = some (.cells #[.int .u64 (p : Int), .int .u64 (e : Int), .slice none 0 0] 30 (0, 0))) := by rw [← hW5, hgr]; exact heap_alloc_new _ _
      rw [← hgr]
      have HR5 := hide (HR.out.below b5)
      have QC5 : Hid (W5.heap[w.heap.size + 2]? = some (.cells #[.int .u64 0, .int .u64 0, .slice none 0 0] 30 (0, 0))) := (b5.block _ (block_lt_of_row QC.out)).trans QC.out
      have BW5 := hide (BWR.out.trans (b5.mono BWR.out.size))
      have GR := hide (show w.heap.size + 2 < gr by rw [hgr]; exact block_lt_of_row QC.out)
      have APT := hide (HR5.out.apart RR.out (by decide))
      clear a0 a1 a2 b0 b1 b2 hW5 b5 hgr QA QB QC BWR HR BR Q0 Q1 Q2 hR2 HCAT L32 CZC BB
      go_wp2_with fail
      go_loopg [73] M (fun gk s73 wr => ∃ (k n : Nat) (ao : Option Addr) (c : Nat), k + gk = M ∧ s73 = .int .i64 (k : Int) ∧ n = k ∧ Hid (DgRow W5.heap.size wr (.slice ao n c) ((rs.take k).map (·.h))) ∧ Hid (wr.heap[gr]? = some (.cells #[.int .u64 (p : Int), .int .u64 (e : Int), .slice ao n c] 30 (0, 0))) ∧ Hid (Chg (fun j => j = gr) W5 wr))
      case atStart => exact ⟨0, 0, none, 0, by omega, rfl, rfl, DgRow.nil _ _, RR, Chg.refl _ _⟩
      case round =>
        clear RR
        obtain ⟨k, n, ao, c, hk, rfl, hnk, DR_, RR, CW⟩ := hrel
        cases gk with
        | zero =>
          have hkM : k = M := by omega
          have qk : ¬ (k : Int) < (M : Int) := by omega
          have DF := hide (show DgRow w.heap.size wr (.slice ao n c) G by
            have := DR_.out
            rw [hkM, HM.out, List.take_length, HST.out] at this
            exact this.mono BW5.out.size)
          obtain ⟨c0, c1, c2⟩ := cells3 RR.out
          have QF : Hid (wr.heap[w.heap.size + 2]? = some (.cells #[.int .u64 0, .int .u64 0, .slice none 0 0] 30 (0, 0))) := CW.out.row QC5.out (by have := GR.out; omega)
          obtain ⟨d0, d1, d2⟩ := cells3 QF.out
          have BF := hide (BW5.out.trans (CW.out.below w.heap.size BW5.out.size (fun j hj e => by have := GR.out; omega)))
          clear hkM hk hnk DR_ RR CW
          obtain ⟨YF, hsf, rf, cf, sf⟩ := store_rg (x := .int .u64 (p : Int)) (y := .int .u64 (e : Int)) (z := .slice ao n c) QF.out rfl rfl rfl
          have RF := hide rf
          have DFF := hide (Rw.chg (el := 23) DF.out cf (fun j hj e => (Rw.apart (el := 23) DF.out QF.out (by decide)) (by rw [← e]; exact hj)))
          have BFF := hide (BF.out.trans (cf.below w.heap.size BF.out.size (fun j hj e => by omega)))
          clear rf cf sf DF BF QF d0 d1 d2
          go_wp2_with (with_reducible refine at_op { dst := none, op := Op.store 30 (Operand.tmp 6) (Operand.tmp 85), type := 0, pos := "block.go:71", after := #[{ on := 0, ground := Ground.data }, { on := 0, ground := Ground.phase }], guard := none } ?_; refine wpList_store_as rfl 30 (.tmp 6) (.tmp 85) rfl (.pointer (some ⟨w.heap.size + 1 + 1, 0, none⟩)) (.agg #[.int .u64 (p : Int), .int .u64 (e : Int), .slice ao n c]) rfl rfl YF hsf ?_)
          exact bodyPost_ret (v := .agg #[.int .u64 (p : Int), .int .u64 (e : Int), .slice ao n c]) (results_cell_row (g := w.heap.size + 2) (t := 30) (fr := (0, 0)) Tryd.results38 _ _ _ _ rfl RF.out Tryd.underlying30 rfl (size30 _ _ _)) rfl ⟨⟨_, rfl, DFF.out⟩, BFF.out⟩
        | succ gO =>
          have qk : (k : Int) < (M : Int) := by omega
          have qk0 : (0 : Int) ≤ (k : Int) := by omega
          have qk1 : IntKind.i64.wrap ((k : Int) + 1) = (k : Int) + 1 := by rw [IntKind.wrap_i64]; omega
          have hkr : k < rs.length := by rw [← HM.out]; omega
          obtain ⟨x, hx⟩ : ∃ x, rs[k]? = some x := ⟨_, List.getElem?_eq_getElem hkr⟩
          have hx32 := R32.out x (List.mem_of_getElem? hx)
          have HRW := HR5.out.chg CW.out (fun j hj e => APT.out (by rw [← e]; exact hj))
          obtain ⟨gc, cc', ec, hgc, hgB, hcx⟩ := HRW.at_ (fun y hy => encB_length _ (R32.out y hy)) k x hx
          simp only [Value.slice.injEq] at ec
          obtain ⟨rfl, eN, rfl⟩ := ec
          clear eN
          have hld := load_bk hcx hx32
          obtain ⟨A, Y, hal, hst, ry, by_, sy⟩ := lay_bk wr x hx32
          obtain ⟨gb, hgb⟩ : ∃ g, g = wr.heap.size := ⟨_, rfl⟩
          rw [← hgb] at hal hst ry
          have hld2 := load_dmid (encB_cells ry).2.2 hx32
          have RRY : Hid (Y.heap[gr]? = some (.cells #[.int .u64 (p : Int), .int .u64 (e : Int), .slice ao n c] 30 (0, 0))) := (by_.block _ (block_lt_of_row RR.out)).trans RR.out
          obtain ⟨c0, c1, c2⟩ := cells3 RRY.out
          have hbs := bs24one Y x.h hx32
          obtain ⟨X, hX⟩ : ∃ X, X = Y.alloc (.cells (S.v8 x.h) 23) := ⟨_, rfl⟩
          rw [← hX] at hbs
          have bx : Below Y.heap.size Y X := by rw [hX]; exact (Below.refl _ _).alloc (Nat.le_refl _) _
          have rx : X.heap[Y.heap.size]? = some (.cells (S.v8l x.h).toArray 23 (0, 0)) := by rw [hX, ← S.v8_eq]; exact heap_alloc_new _ _
          have DX : DgRow W5.heap.size X (.slice ao n c) ((rs.take k).map (·.h)) := (DR_.out.below by_).below bx
          have KEY := hide (Rw.append kdD 28 (w := X) (v := .slice ao n c) DX (Sce.of_row (c := 1) rx) (fun y hy => by simp only [List.mem_singleton] at hy; rw [hy, S.v8l_length, hx32]) (by simp only [List.length_map, List.length_take, List.length_cons, List.length_nil]; omega) (Nat.le_trans CW.out.size (Nat.le_trans by_.size bx.size)))
          have CX := hide ((CW.out.then by_).then bx)
          have RRX : Hid (X.heap[gr]? = some (.cells #[.int .u64 (p : Int), .int .u64 (e : Int), .slice ao n c] 30 (0, 0))) := (bx.block _ (block_lt_of_row RRY.out)).trans RRY.out
          have APX := hide (Rw.apart (el := 23) DX RRX.out (by decide))
          have HW := hide (fun j (h : (Value.slice ao n c).ownBlock = some j) => (Rw.blk (el := 23) DX h).1)
          have htk : (rs.take k).map (·.h) ++ [x.h] = (rs.take (k + 1)).map (·.h) := by
            rw [List.take_add_one, hx, List.map_append]; rfl
          rw [htk] at KEY
          have hl1 := hide (show ((rs.take (k + 1)).map (·.h)).length = k + 1 by rw [List.length_map, List.length_take]; omega)
          have LX := hide hx32
          obtain ⟨gx, hgx⟩ : ∃ g, g = Y.heap.size := ⟨_, rfl⟩
          rw [← hgx] at hbs KEY
          obtain ⟨VX, hVX⟩ : ∃ V, V = Value.agg (encB x).toArray := ⟨_, rfl⟩
          rw [← hVX] at hld hst
          obtain ⟨VD, hVD⟩ : ∃ V, V = Value.agg (S.v8 x.h) := ⟨_, rfl⟩
          rw [← hVD] at hld2 hbs
          have HNK := hide hnk
          clear bx rx hX hgx hVX hVD ry by_ sy hgb hcx hgB hgc HRW hx hx32 hkr htk DX RR DR_ CW hnk
          go_wp2_with (first | (with_reducible refine at_op { dst := some 76, op := Op.load 93 (Operand.tmp 75), type := 93, pos := "block.go:68", after := #[{ on := 0, ground := Ground.data }], guard := none } ?_; refine wpList_load_as rfl 93 (.tmp 75) rfl (.pointer (some ⟨gc, k * 34, none⟩)) rfl VX hld ?_) | (with_reducible refine at_op { dst := some 13, op := Op.alloc 93, type := 0, pos := "block.go:68", after := #[], guard := none } ?_; refine wpList_alloc_known rfl 93 rfl (.pointer (some ⟨gb, 0, none⟩)) A hal ?_) | (with_reducible refine at_op { dst := none, op := Op.store 93 (Operand.tmp 13) (Operand.tmp 76), type := 0, pos := "block.go:68", after := #[{ on := 2, ground := Ground.data }, { on := 1, ground := Ground.data }, { on := 0, ground := Ground.phase }, { on := 1, ground := Ground.phase }, { on := 2, ground := Ground.phase }], guard := none } ?_; refine wpList_store_as rfl 93 (.tmp 13) (.tmp 76) rfl (.pointer (some ⟨gb, 0, none⟩)) VX rfl rfl Y hst ?_) | (with_reducible refine at_op { dst := some 80, op := Op.load 23 (Operand.tmp 79), type := 23, pos := "block.go:69", after := #[{ on := 2, ground := Ground.data }], guard := none } ?_; refine wpList_load_as rfl 23 (.tmp 79) rfl (.pointer (some ⟨gb, 2, none⟩)) rfl VD hld2 ?_) | (with_reducible refine at_op { dst := some 81, op := Op.buildSlice 28 1 #[(0, Operand.tmp 80)], type := 28, pos := "block.go:69", after := #[{ on := 3, ground := Ground.data }], guard := none } ?_; refine wpList_buildSlice_as rfl 28 1 [(0, .tmp 80)] rfl [(0, VD)] rfl _ _ hbs ?_) | (at_builtin; (refine wpList_append_known rfl (.tmp 78) (.tmp 81) 28 28 rfl _ _ rfl rfl KEY.out ?_; rintro v9 Y9 ⟨hR', hC'⟩; obtain ⟨o9, c9, rfl⟩ := Rw.form hR'; rw [hl1.out] at hR' ⊢; obtain ⟨n9, hn9⟩ : ∃ n9, n9 = k + 1 := ⟨_, rfl⟩; rw [← hn9] at hR' ⊢; obtain ⟨YS, hss, rs9, cs9, ss9⟩ := store28 o9 n9 c9 (hC'.row RRX.out APX.out); have RN := hide (Rw.chg hR' cs9 (fun j hj e => (Rw.apart hR' (hC'.row RRX.out APX.out) (by decide)) (by rw [← e]; exact hj))); have RS := hide rs9; have CS := hide ((CX.out.trans hC' (fun j hj e => by have := HW.out j e; omega)).trans cs9 (fun j hj e => e)); have HN9 := hide hn9; clear hR' hC' rs9 cs9 ss9 hn9)) | (with_reducible refine at_op { dst := none, op := Op.store 28 (Operand.tmp 83) (Operand.tmp 82), type := 0, pos := "block.go:69", after := #[{ on := 6, ground := Ground.data }, { on := 5, ground := Ground.data }, { on := 5, ground := Ground.chain }, { on := 0, ground := Ground.phase }, { on := 1, ground := Ground.phase }, { on := 2, ground := Ground.phase }, { on := 3, ground := Ground.phase }, { on := 4, ground := Ground.phase }, { on := 5, ground := Ground.phase }], guard := none } ?_; refine wpList_store_as rfl 28 (.tmp 83) (.tmp 82) rfl (.pointer (some ⟨gr, 2, none⟩)) (.slice o9 n9 c9) rfl rfl YS hss ?_))
          go_roundg gO
          case measure => omega
          case rel => exact ⟨n9, n9, o9, c9, by have := HN9.out; omega, by rw [HN9.out]; first | rfl | simp, rfl, RN, RS, CS⟩
    | succ gO =>
      have qk : (k : Int) < (cn : Int) := by omega
      have qk0 : (0 : Int) ≤ (k : Int) := by omega
      have qk1 : IntKind.i64.wrap ((k : Int) + 1) = (k : Int) + 1 := by rw [IntKind.wrap_i64]; omega
      obtain ⟨x, hx, hmid, hinv⟩ := C.Inv.item (S.node a) [] HI.out (by rw [← HN.out]; omega)
      have hx32 := L32.out x (List.mem_of_getElem? hx)
      obtain ⟨gc, cc', ec, hgc, hgB, hcx⟩ := HCAT.out.at_ (fun y hy => encB_length _ (L32.out y hy)) k x hx
      simp only [Value.slice.injEq] at ec
      obtain ⟨rfl, eN, rfl⟩ := ec
      clear eN
      have hld := load_bk (below_range BR.out hgc hcx) hx32
      obtain ⟨A, Y, hal, hst, ry, by_, sy⟩ := lay_bk wr x hx32
      have hstl : st.length ≤ 128 := by have := HI.out.1; omega
      have HRY := hide (HR.out.below by_)
      have BY := hide (BR.out.trans (by_.mono BR.out.size))
      obtain ⟨gb, hgb⟩ : ∃ g, g = wr.heap.size := ⟨_, rfl⟩
      rw [← hgb] at hal hst ry
      have RY := hide ry
      have GB := hide (show ZC.heap.size ≤ gb by rw [hgb]; exact BR.out.size)
      have F32 := hide (C.push_all (S.node a) (fun h => h.length = 32) (fun _ _ => S.node_length _ _ _) st x S32.out hx32)
      obtain ⟨F, hF⟩ : ∃ F, F = C.push (S.node a) st x := ⟨_, rfl⟩
      rw [← hF] at hinv F32
      have HF := hide hF
      have HMID := hide hmid
      have HINV := hide hinv
      have HX32 := hide hx32
      obtain ⟨VX, hVX⟩ : ∃ V, V = Value.agg (encB x).toArray := ⟨_, rfl⟩
      rw [← hVX] at hld hst
      have HRO := hide (show (Value.slice so st.reverse.length sc).ownBlock = some gb → False from fun e => by have := (HR.out.blk e).2.1; omega)
      clear hx hmid hinv hx32 hgc hgB hcx ry by_ sy hgb hF hVX HI HR BR
      go_wp2_with (first | (with_reducible refine at_op { dst := some 24, op := Op.load 93 (Operand.tmp 23), type := 93, pos := "block.go:59", after := #[{ on := 0, ground := Ground.data }], guard := none } ?_; refine wpList_load_as rfl 93 (.tmp 23) rfl (.pointer (some ⟨gc, k * 34, none⟩)) rfl VX hld ?_) | (with_reducible refine at_op { dst := some 9, op := Op.alloc 93, type := 0, pos := "block.go:59", after := #[], guard := none } ?_; refine wpList_alloc_known rfl 93 rfl (.pointer (some ⟨gb, 0, none⟩)) A hal ?_) | (with_reducible refine at_op { dst := none, op := Op.store 93 (Operand.tmp 9) (Operand.tmp 24), type := 0, pos := "block.go:59", after := #[{ on := 2, ground := Ground.data }, { on := 1, ground := Ground.data }, { on := 0, ground := Ground.phase }, { on := 1, ground := Ground.phase }, { on := 2, ground := Ground.phase }], guard := none } ?_; refine wpList_store_as rfl 93 (.tmp 9) (.tmp 24) rfl (.pointer (some ⟨gb, 0, none⟩)) VX rfl rfl Y hst ?_))
      clear hld hal hst
      simp only [Act.put, List.setIfInBounds_toArray, List.set_cons_zero, List.set_cons_succ]
      go_loopg [7] (st.length) (fun g2 s7 wz => ∃ (tt : List (C.Bk (List UInt8))) (y : C.Bk (List UInt8)), g2 = tt.length ∧ tt.length ≤ 128 ∧ Hid (F = C.push (S.node a) tt y) ∧ Hid (C.Mid (S.node a) [] p e (C.blocks p m ++ C.blocks m e) (ha ++ hb) tt y) ∧ Hid (∀ f ∈ tt, f.h.length = 32) ∧ Hid (y.h.length = 32) ∧ Hid (wz.heap[gb]? = some (.cells (encB y).toArray 93 (0, 0))) ∧ Hid (BRow ZC.heap.size wz s7 tt.reverse) ∧ Hid (s7.ownBlock ≠ some gb) ∧ Hid (Below ZC.heap.size ZC wz))
      case atStart => exact ⟨st, x, rfl, hstl, HF, HMID, S32, HX32, RY, HRY, hide (fun e => HRO.out e), BY⟩
      case round =>
        clear HF HMID S32 HX32 RY HRY BY
        obtain ⟨tt, y, hg2, htl, HF, HMID, T32, Y32, RY, HR, NE, BZ⟩ := hrel
        obtain ⟨tp, tc, rfl⟩ := HR.out.form
        have hbd := hide HMID.out.bound
        cases tt with
        | nil =>
          obtain ⟨yb, ys, yh⟩ := y
          simp only [List.reverse_nil, List.length_nil] at HR NE ⊢
          have LY := hide Y32.out
          go_wp2_with fail
          refine wp_region_noPanic ?_
          refine wp_region_held_drew (S := (fun W => Chg (fun _ => False) wr W)) follows ((Chg.refl _ _).drew) (fun hHeld => ?_)
          clear hHeld
          have hHeld : Chg (fun _ => False) wr wr.drew := (Chg.refl _ _).drew
          have CZ0 := hide hHeld
          generalize wr.drew = Z0 at CZ0 hHeld ⊢
          refine wpAnyH_take (i := 0) (oi := { dst := some 25, op := Op.move (Operand.tmp 7), type := 90, pos := "block.go:60", after := #[], guard := none }) (v := ?_) rfl (by kernel_rfl) (by kernel_rfl) (by kernel_rfl) (fun _ _ _ h => h) (Or.inl ⟨by rfl, ?_⟩) (by assumption) ?_
          rotate_left
          · intro w hSw
            clear hSw
            go_simp
            all_goals with_reducible rfl
          simp only [Act.put, List.setIfInBounds_toArray, List.set_cons_zero, List.set_cons_succ]
          refine wpAnyH_take (i := 1) (oi := { dst := some 26, op := Op.call { callee := Callee.builtin Builtin.len, args := #[Operand.tmp 25], argTypes := #[90] }, type := 3, pos := "block.go:60", after := #[{ on := 0, ground := Ground.data }], guard := none }) (v := ?_) rfl (by kernel_rfl) (by kernel_rfl) (by kernel_rfl) (fun _ _ _ h => h) (Or.inl ⟨by rfl, ?_⟩) (by assumption) ?_
          rotate_left
          · intro w hSw
            clear hSw
            go_simp
            all_goals with_reducible rfl
          simp only [Act.put, List.setIfInBounds_toArray, List.set_cons_zero, List.set_cons_succ]
          refine wpAnyH_take (i := 2) (oi := { dst := some 27, op := Op.binOp BinOp.gtr 3 (Operand.tmp 26) (Operand.const (Value.int IntKind.i64 0)) 3, type := 4, pos := "block.go:60", after := #[{ on := 1, ground := Ground.data }], guard := none }) (v := ?_) rfl (by kernel_rfl) (by kernel_rfl) (by kernel_rfl) (fun _ _ _ h => h) (Or.inl ⟨by rfl, ?_⟩) (by assumption) ?_
          rotate_left
          · intro w hSw
            clear hSw
            go_simp
            all_goals with_reducible rfl
          simp only [Act.put, List.setIfInBounds_toArray, List.set_cons_zero, List.set_cons_succ]
          refine wpAnyH_take (i := 3) (oi := { dst := some 28, op := Op.move (Operand.tmp 27), type := 4, pos := "block.go:60", after := #[{ on := 2, ground := Ground.data }], guard := none }) (v := ?_) rfl (by kernel_rfl) (by kernel_rfl) (by kernel_rfl) (fun _ _ _ h => h) (Or.inl ⟨by rfl, ?_⟩) (by assumption) ?_
          rotate_left
          · intro w hSw
            clear hSw
            go_simp
            all_goals with_reducible rfl
          simp only [Act.put, List.setIfInBounds_toArray, List.set_cons_zero, List.set_cons_succ]
          refine wpAnyH_take (i := 4) (oi := { dst := some 29, op := Op.move (Operand.tmp 7), type := 90, pos := "block.go:60", after := #[{ on := 3, ground := Ground.guard }], guard := some (3, true) }) (v := undef) rfl (by kernel_rfl) (by kernel_rfl) (by kernel_rfl) (fun _ _ _ h => h) (Or.inr ⟨by rfl, rfl⟩) (by assumption) ?_
          simp only [Act.put, List.setIfInBounds_toArray, List.set_cons_zero, List.set_cons_succ]
          refine wpAnyH_take (i := 5) (oi := { dst := some 30, op := Op.move (Operand.tmp 7), type := 90, pos := "block.go:60", after := #[{ on := 3, ground := Ground.guard }], guard := some (3, true) }) (v := undef) rfl (by kernel_rfl) (by kernel_rfl) (by kernel_rfl) (fun _ _ _ h => h) (Or.inr ⟨by rfl, rfl⟩) (by assumption) ?_
          simp only [Act.put, List.setIfInBounds_toArray, List.set_cons_zero, List.set_cons_succ]
          refine wpAnyH_take (i := 6) (oi := { dst := some 31, op := Op.call { callee := Callee.builtin Builtin.len, args := #[Operand.tmp 30], argTypes := #[90] }, type := 3, pos := "block.go:60", after := #[{ on := 5, ground := Ground.data }, { on := 3, ground := Ground.guard }], guard := some (3, true) }) (v := undef) rfl (by kernel_rfl) (by kernel_rfl) (by kernel_rfl) (fun _ _ _ h => h) (Or.inr ⟨by rfl, rfl⟩) (by assumption) ?_
          simp only [Act.put, List.setIfInBounds_toArray, List.set_cons_zero, List.set_cons_succ]
          refine wpAnyH_take (i := 7) (oi := { dst := some 32, op := Op.binOp BinOp.sub 3 (Operand.tmp 31) (Operand.const (Value.int IntKind.i64 1)) 3, type := 3, pos := "block.go:60", after := #[{ on := 6, ground := Ground.data }, { on := 3, ground := Ground.guard }], guard := some (3, true) }) (v := undef) rfl (by kernel_rfl) (by kernel_rfl) (by kernel_rfl) (fun _ _ _ h => h) (Or.inr ⟨by rfl, rfl⟩) (by assumption) ?_
          simp only [Act.put, List.setIfInBounds_toArray, List.set_cons_zero, List.set_cons_succ]
          refine wpAnyH_take (i := 8) (oi := { dst := some 33, op := Op.indexAddr 90 (Operand.tmp 29) (Operand.tmp 32), type := 0, pos := "block.go:60", after := #[{ on := 4, ground := Ground.data }, { on := 7, ground := Ground.data }, { on := 3, ground := Ground.guard }], guard := some (3, true) }) (v := undef) rfl (by kernel_rfl) (by kernel_rfl) (by kernel_rfl) (fun _ _ _ h => h) (Or.inr ⟨by rfl, rfl⟩) (by assumption) ?_
          simp only [Act.put, List.setIfInBounds_toArray, List.set_cons_zero, List.set_cons_succ]
          refine wpAnyH_take (i := 9) (oi := { dst := some 34, op := Op.load 93 (Operand.tmp 33), type := 93, pos := "block.go:60", after := #[{ on := 8, ground := Ground.data }, { on := 3, ground := Ground.guard }], guard := some (3, true) }) (v := undef) rfl (by kernel_rfl) (by kernel_rfl) (by kernel_rfl) (fun _ _ _ h => h) (Or.inr ⟨by rfl, rfl⟩) (by assumption) ?_
          simp only [Act.put, List.setIfInBounds_toArray, List.set_cons_zero, List.set_cons_succ]
          refine wpAnyH_take (i := 10) (oi := { dst := some 35, op := Op.load 93 (Operand.tmp 9), type := 93, pos := "block.go:60", after := #[{ on := 3, ground := Ground.guard }], guard := some (3, true) }) (v := undef) rfl (by kernel_rfl) (by kernel_rfl) (by kernel_rfl) (fun _ _ _ h => h) (Or.inr ⟨by rfl, rfl⟩) (by assumption) ?_
          simp only [Act.put, List.setIfInBounds_toArray, List.set_cons_zero, List.set_cons_succ]
          refine wpAnyH_take (i := 11) (oi := { dst := some 36, op := Op.call { callee := Callee.value (Operand.func 54), args := #[Operand.tmp 34, Operand.tmp 35], argTypes := #[93, 93] }, type := 4, pos := "block.go:60", after := #[{ on := 9, ground := Ground.data }, { on := 10, ground := Ground.data }, { on := 3, ground := Ground.chain }, { on := 3, ground := Ground.guard }], guard := some (3, true) }) (v := undef) rfl (by kernel_rfl) (by kernel_rfl) (by kernel_rfl) (fun _ _ _ h => h) (Or.inr ⟨by rfl, rfl⟩) (by assumption) ?_
          simp only [Act.put, List.setIfInBounds_toArray, List.set_cons_zero, List.set_cons_succ]
          refine wpAnyH_take (i := 12) (oi := { dst := some 37, op := Op.pick (Operand.tmp 28) (Operand.tmp 36) (Operand.const (Value.bool false)), type := 4, pos := "block.go:60", after := #[{ on := 3, ground := Ground.data }, { on := 11, ground := Ground.data }], guard := none }) (v := ?_) rfl (by kernel_rfl) (by kernel_rfl) (by kernel_rfl) (fun _ _ _ h => h) (Or.inl ⟨by rfl, ?_⟩) (by assumption) ?_
          rotate_left
          · intro w hSw
            clear hSw
            go_simp
            all_goals with_reducible rfl
          simp only [Act.put, List.setIfInBounds_toArray, List.set_cons_zero, List.set_cons_succ]
          refine wpAnyH_done (by kernel_rfl) ?_ _
          refine NoPanic.normal ?_
          clear hHeld
          have BZ1 : Hid (Below wr.heap.size wr Z0) := (CZ0.out.below _ (Nat.le_refl _) (fun _ _ e => e))
          clear CZ0
          go_upto_region 9 with fail
          have hrev := hide (show F.reverse = ([] : List (C.Bk (List UInt8))) ++ [⟨yb, ys, yh⟩] by rw [HF.out]; simp [C.push])
          have HR1 := hide (HR.out.below BZ1.out)
          have RY1 : Hid (Z0.heap[gb]? = some (.cells (encB ⟨yb, ys, yh⟩).toArray 93 (0, 0))) := (BZ1.out.block _ (block_lt_of_row RY.out)).trans RY.out
          have BZZ := hide (BZ.out.trans (BZ1.out.mono BZ.out.size))
          have hln := hide (show ([] : List (C.Bk (List UInt8))).length ≤ 129 by simp)
          clear HF HMID T32 HR BZ1 RY hbd
          have hld := load_bk (rangeAt_row RY1.out) LY.out
          have hbs := bs90one Z0 ⟨yb, ys, yh⟩ LY.out
          obtain ⟨X, hX⟩ : ∃ X, X = Z0.alloc (.cells (encB ⟨yb, ys, yh⟩).toArray 93) := ⟨_, rfl⟩
          rw [← hX] at hbs
          have bx : Below Z0.heap.size Z0 X := by rw [hX]; exact (Below.refl _ _).alloc (Nat.le_refl _) _
          have rx : X.heap[Z0.heap.size]? = some (.cells (encB ⟨yb, ys, yh⟩).toArray 93 (0, 0)) := by rw [hX]; exact heap_alloc_new _ _
          have HRX := HR1.out.below bx
          have KEY := hide (Rw.append kdB 90 HRX (Sce.of_row (c := 1) rx) (fun y hy => by simp only [List.mem_singleton] at hy; rw [hy]; exact encB_length _ LY.out) (by simp only [List.length_cons, List.length_nil]; have := hln.out; omega) (Nat.le_trans BZZ.out.size bx.size))
          have BX := hide (BZZ.out.trans (bx.mono BZZ.out.size))
          have HW := hide (fun j (e : (Value.slice tp 0 tc).ownBlock = some j) => (HRX.blk e).1)
          rw [← hrev.out] at KEY
          obtain ⟨gx, hgx⟩ : ∃ g, g = Z0.heap.size := ⟨_, rfl⟩
          rw [← hgx] at hbs KEY
          obtain ⟨VY, hVY⟩ : ∃ V, V = Value.agg (encB ⟨yb, ys, yh⟩).toArray := ⟨_, rfl⟩
          rw [← hVY] at hbs hld
          clear bx rx hX hgx hVY HRX HR1 RY1
          go_wp2_with (first | (with_reducible refine at_op { dst := some 62, op := Op.load 93 (Operand.tmp 9), type := 93, pos := "block.go:65", after := #[], guard := none } ?_; refine wpList_load_as rfl 93 (.tmp 9) rfl (.pointer (some ⟨gb, 0, none⟩)) rfl VY hld ?_) | (with_reducible refine at_op { dst := some 63, op := Op.buildSlice 90 1 #[(0, Operand.tmp 62)], type := 90, pos := "block.go:65", after := #[{ on := 1, ground := Ground.data }], guard := none } ?_; refine wpList_buildSlice_as rfl 90 1 [(0, .tmp 62)] rfl [(0, VY)] rfl _ _ hbs ?_) | (at_builtin; (refine wpList_append_known rfl (.tmp 61) (.tmp 63) 90 90 rfl _ _ rfl rfl KEY.out ?_; rintro v' Y9 ⟨hR', hC'⟩; have RN := hide hR'; have BN := hide (BX.out.trans (hC'.below _ BX.out.size (fun k hk e => by have := HW.out _ e; omega))); clear hR' hC')))
          go_roundg gO
          case measure => omega
          case rel => exact ⟨k + 1, F, by omega, by first | rfl | simp, HINV, F32, RN, BN⟩
        | cons f tt =>
          obtain ⟨fb, fs, fh⟩ := f
          obtain ⟨yb, ys, yh⟩ := y
          have LF := hide (T32.out ⟨fb, fs, fh⟩ (by simp))
          have LY := hide Y32.out
          have hfs0 : 0 < fs := by
            obtain ⟨⟨_, ⟨⟨i, hi⟩, _⟩, _⟩, _⟩ := HMID.out
            rw [show fs = 2 ^ i from hi]; exact C.two_pos i
          have hfb : fb + fs ≤ yb := hbd.out.2.2 ⟨fb, fs, fh⟩ (by simp)
          have hye : yb + ys ≤ e := hbd.out.1
          have hrl : (C.Bk.mk fb fs fh :: tt).reverse.length = tt.length + 1 := by simp
          rw [hrl] at HR NE ⊢
          rw [List.reverse_cons] at HR
          obtain ⟨gt, rfl, htn, htc, htm, htB, htlt⟩ := HR.out.room (by simp)
          obtain ⟨n7, hn7⟩ : ∃ n, n = tt.length + 1 := ⟨_, rfl⟩
          obtain ⟨m7, hm7⟩ : ∃ n, n = tt.length := ⟨_, rfl⟩
          rw [← hn7] at HR NE ⊢
          clear hrl
          have hnm : n7 = m7 + 1 := by omega
          have hnc : n7 ≤ tc := by rw [hn7]; simp at htc; exact htc
          have hn129 : n7 ≤ 129 := by simp at htl; omega
          have HN7 := hide hn7
          have HM7 := hide hm7
          have q1 : (n7 : Int) > 0 := by omega
          have q1' : (0 : Int) < (n7 : Int) := by omega
          have q1n : 0 < n7 := by omega
          have q2 : IntKind.i64.wrap ((n7 : Int) - 1) = (m7 : Int) := by rw [IntKind.wrap_i64]; omega
          have q3 : (0 : Int) ≤ (m7 : Int) := by omega
          have q4 : (m7 : Int) < (n7 : Int) := by omega
          have hrf : wr.rangeAt gt (m7 * 34) (encB ⟨fb, fs, fh⟩) := by
            obtain ⟨g', c', e', -, -, h'⟩ := HR.out.at_ (fun y hy => by
              rcases List.mem_append.1 hy with hy | hy
              · exact encB_length _ (T32.out y (by simp [List.mem_reverse.1 hy]))
              · simp only [List.mem_singleton] at hy; rw [hy]; exact encB_length _ LF.out) m7 ⟨fb, fs, fh⟩ (by rw [HM7.out, List.getElem?_append_right (by simp)]; simp)
            simp only [Value.slice.injEq, Option.some.injEq, Addr.mk.injEq, and_true] at e'
            rw [e'.1]; exact h'
          have HRF := hide hrf
          have hsz93 := size93l ⟨fb, fs, fh⟩ LF.out
          have hsz93y := size93l ⟨yb, ys, yh⟩ LY.out
          have GT := hide (And.intro htB htlt)
          have NEG := hide (show gt ≠ gb from fun e => NE.out (by rw [e]; rfl))
          have HNM := hide hnm
          clear hnm hrf hn7 hm7 htn htc htm htB htlt hbd
          by_cases hc : fs = ys ∧ fb % (2 * fs) = 0
          · have HDEC := hide (show decide (fs = ys ∧ fb % (2 * fs) = 0) = true from decide_eq_true hc)
            have HC := hide hc
            clear hc
            go_wp2_with fail
            refine wp_region_noPanic ?_
            refine wp_region_held_drew (S := (fun W => Chg (fun _ => False) wr W)) follows ((Chg.refl _ _).drew) (fun hHeld => ?_)
            clear hHeld
            have hHeld : Chg (fun _ => False) wr wr.drew := (Chg.refl _ _).drew
            have CZ0 := hide hHeld
            generalize wr.drew = Z0 at CZ0 hHeld ⊢
            refine wpAnyH_take (i := 0) (oi := { dst := some 25, op := Op.move (Operand.tmp 7), type := 90, pos := "block.go:60", after := #[], guard := none }) (v := ?_) rfl (by kernel_rfl) (by kernel_rfl) (by kernel_rfl) (fun _ _ _ h => h) (Or.inl ⟨by rfl, ?_⟩) (by assumption) ?_
            rotate_left
            · intro w hSw
              clear hSw
              go_simp
              all_goals with_reducible rfl
            simp only [Act.put, List.setIfInBounds_toArray, List.set_cons_zero, List.set_cons_succ]
            refine wpAnyH_take (i := 1) (oi := { dst := some 26, op := Op.call { callee := Callee.builtin Builtin.len, args := #[Operand.tmp 25], argTypes := #[90] }, type := 3, pos := "block.go:60", after := #[{ on := 0, ground := Ground.data }], guard := none }) (v := ?_) rfl (by kernel_rfl) (by kernel_rfl) (by kernel_rfl) (fun _ _ _ h => h) (Or.inl ⟨by rfl, ?_⟩) (by assumption) ?_
            rotate_left
            · intro w hSw
              clear hSw
              go_simp
              all_goals with_reducible rfl
            simp only [Act.put, List.setIfInBounds_toArray, List.set_cons_zero, List.set_cons_succ]
            refine wpAnyH_take (i := 2) (oi := { dst := some 27, op := Op.binOp BinOp.gtr 3 (Operand.tmp 26) (Operand.const (Value.int IntKind.i64 0)) 3, type := 4, pos := "block.go:60", after := #[{ on := 1, ground := Ground.data }], guard := none }) (v := ?_) rfl (by kernel_rfl) (by kernel_rfl) (by kernel_rfl) (fun _ _ _ h => h) (Or.inl ⟨by rfl, ?_⟩) (by assumption) ?_
            rotate_left
            · intro w hSw
              clear hSw
              go_simp
              all_goals with_reducible rfl
            simp only [Act.put, List.setIfInBounds_toArray, List.set_cons_zero, List.set_cons_succ]
            refine wpAnyH_take (i := 3) (oi := { dst := some 28, op := Op.move (Operand.tmp 27), type := 4, pos := "block.go:60", after := #[{ on := 2, ground := Ground.data }], guard := none }) (v := ?_) rfl (by kernel_rfl) (by kernel_rfl) (by kernel_rfl) (fun _ _ _ h => h) (Or.inl ⟨by rfl, ?_⟩) (by assumption) ?_
            rotate_left
            · intro w hSw
              clear hSw
              go_simp
              all_goals with_reducible rfl
            simp only [Act.put, List.setIfInBounds_toArray, List.set_cons_zero, List.set_cons_succ]
            refine wpAnyH_take (i := 4) (oi := { dst := some 29, op := Op.move (Operand.tmp 7), type := 90, pos := "block.go:60", after := #[{ on := 3, ground := Ground.guard }], guard := some (3, true) }) (v := ?_) rfl (by kernel_rfl) (by kernel_rfl) (by kernel_rfl) (fun _ _ _ h => h) (Or.inl ⟨by rfl, ?_⟩) (by assumption) ?_
            rotate_left
            · intro w hSw
              clear hSw
              go_simp
              all_goals with_reducible rfl
            simp only [Act.put, List.setIfInBounds_toArray, List.set_cons_zero, List.set_cons_succ]
            refine wpAnyH_take (i := 5) (oi := { dst := some 30, op := Op.move (Operand.tmp 7), type := 90, pos := "block.go:60", after := #[{ on := 3, ground := Ground.guard }], guard := some (3, true) }) (v := ?_) rfl (by kernel_rfl) (by kernel_rfl) (by kernel_rfl) (fun _ _ _ h => h) (Or.inl ⟨by rfl, ?_⟩) (by assumption) ?_
            rotate_left
            · intro w hSw
              clear hSw
              go_simp
              all_goals with_reducible rfl
            simp only [Act.put, List.setIfInBounds_toArray, List.set_cons_zero, List.set_cons_succ]
            refine wpAnyH_take (i := 6) (oi := { dst := some 31, op := Op.call { callee := Callee.builtin Builtin.len, args := #[Operand.tmp 30], argTypes := #[90] }, type := 3, pos := "block.go:60", after := #[{ on := 5, ground := Ground.data }, { on := 3, ground := Ground.guard }], guard := some (3, true) }) (v := ?_) rfl (by kernel_rfl) (by kernel_rfl) (by kernel_rfl) (fun _ _ _ h => h) (Or.inl ⟨by rfl, ?_⟩) (by assumption) ?_
            rotate_left
            · intro w hSw
              clear hSw
              go_simp
              all_goals with_reducible rfl
            simp only [Act.put, List.setIfInBounds_toArray, List.set_cons_zero, List.set_cons_succ]
            refine wpAnyH_take (i := 7) (oi := { dst := some 32, op := Op.binOp BinOp.sub 3 (Operand.tmp 31) (Operand.const (Value.int IntKind.i64 1)) 3, type := 3, pos := "block.go:60", after := #[{ on := 6, ground := Ground.data }, { on := 3, ground := Ground.guard }], guard := some (3, true) }) (v := ?_) rfl (by kernel_rfl) (by kernel_rfl) (by kernel_rfl) (fun _ _ _ h => h) (Or.inl ⟨by rfl, ?_⟩) (by assumption) ?_
            rotate_left
            · intro w hSw
              clear hSw
              go_simp
              all_goals with_reducible rfl
            simp only [Act.put, List.setIfInBounds_toArray, List.set_cons_zero, List.set_cons_succ]
            refine wpAnyH_take (i := 8) (oi := { dst := some 33, op := Op.indexAddr 90 (Operand.tmp 29) (Operand.tmp 32), type := 0, pos := "block.go:60", after := #[{ on := 4, ground := Ground.data }, { on := 7, ground := Ground.data }, { on := 3, ground := Ground.guard }], guard := some (3, true) }) (v := ?_) rfl (by kernel_rfl) (by kernel_rfl) (by kernel_rfl) (fun _ _ _ h => h) (Or.inl ⟨by rfl, ?_⟩) (by assumption) ?_
            rotate_left
            · intro w hSw
              clear hSw
              go_simp
              all_goals with_reducible rfl
            simp only [Act.put, List.setIfInBounds_toArray, List.set_cons_zero, List.set_cons_succ]
            refine wpAnyH_take (i := 9) (oi := { dst := some 34, op := Op.load 93 (Operand.tmp 33), type := 93, pos := "block.go:60", after := #[{ on := 8, ground := Ground.data }, { on := 3, ground := Ground.guard }], guard := some (3, true) }) (v := .agg (encB ⟨fb, fs, fh⟩).toArray) rfl (by kernel_rfl) (by kernel_rfl) (by kernel_rfl) (fun _ _ _ h => h) (yieldsIf_load_mid (by rfl) _ _ rfl gt (m7 * 34) rfl (encB ⟨fb, fs, fh⟩) _ (fun _ hSw => below_range (hSw.below wr.heap.size (Nat.le_refl _) (fun _ _ e => e)) GT.out.2 HRF.out) Tryd.underlying93 rfl hsz93) (by assumption) ?_
            simp only [Act.put, List.setIfInBounds_toArray, List.set_cons_zero, List.set_cons_succ]
            refine wpAnyH_take (i := 10) (oi := { dst := some 35, op := Op.load 93 (Operand.tmp 9), type := 93, pos := "block.go:60", after := #[{ on := 3, ground := Ground.guard }], guard := some (3, true) }) (v := .agg (encB ⟨yb, ys, yh⟩).toArray) rfl (by kernel_rfl) (by kernel_rfl) (by kernel_rfl) (fun _ _ _ h => h) (yieldsIf_load_mid (by rfl) _ _ rfl gb 0 rfl (encB ⟨yb, ys, yh⟩) _ (fun _ hSw => rangeAt_row (hSw.row RY.out (fun e => e))) Tryd.underlying93 rfl hsz93y) (by assumption) ?_
            simp only [Act.put, List.setIfInBounds_toArray, List.set_cons_zero, List.set_cons_succ]
            refine wpAnyH_ready (rs := [11]) (by kernel_rfl) (by simp) ?_
            refine AllReadyH.cons (o := { dst := some 36, op := Op.call { callee := Callee.value (Operand.func 54), args := #[Operand.tmp 34, Operand.tmp 35], argTypes := #[93, 93] }, type := 4, pos := "block.go:60", after := #[{ on := 9, ground := Ground.data }, { on := 10, ground := Ground.data }, { on := 3, ground := Ground.chain }, { on := 3, ground := Ground.guard }], guard := some (3, true) }) rfl (fun K hK => ?_) AllReadyH.nil
            go_simp
            refine (halves_any ⟨fb, fs, fh⟩ ⟨yb, ys, yh⟩ Z0 hfs0 (show fs ≤ 4294967296 by omega)).mono ?_
            rintro e Z1 ⟨rfl, hb2⟩
            rw [show decide ((C.Bk.mk fb fs fh).s = (C.Bk.mk yb ys yh).s ∧ (C.Bk.mk fb fs fh).b % (2 * (C.Bk.mk fb fs fh).s) = 0) = _ from HDEC.out]
            have CZ1 : Hid (Chg (fun _ => False) wr Z1) := CZ0.out.then hb2
            clear hb2 CZ0
            clear hHeld
            refine hK.out _ _ CZ1.out (fun hHeld => ?_)
            clear hK K
            try simp only [Act.put, List.setIfInBounds_toArray, List.set_cons_zero, List.set_cons_succ]
            refine wpAnyH_take (i := 12) (oi := { dst := some 37, op := Op.pick (Operand.tmp 28) (Operand.tmp 36) (Operand.const (Value.bool false)), type := 4, pos := "block.go:60", after := #[{ on := 3, ground := Ground.data }, { on := 11, ground := Ground.data }], guard := none }) (v := ?_) rfl (by kernel_rfl) (by kernel_rfl) (by kernel_rfl) (fun _ _ _ h => h) (Or.inl ⟨by rfl, ?_⟩) (by assumption) ?_
            rotate_left
            · intro w hSw
              clear hSw
              go_simp
              all_goals with_reducible rfl
            simp only [Act.put, List.setIfInBounds_toArray, List.set_cons_zero, List.set_cons_succ]
            refine wpAnyH_done (by kernel_rfl) ?_ _
            refine NoPanic.normal ?_
            clear hHeld
            have BZ1 : Hid (Below wr.heap.size wr Z1) := (CZ1.out.below _ (Nat.le_refl _) (fun _ _ e => e))
            clear CZ1
            go_upto_region 6 with fail
            have HFN := hide (HF.out.trans (C.push_join (S.node a) ⟨fb, fs, fh⟩ tt ⟨yb, ys, yh⟩ HC.out.1 HC.out.2))
            have HMN := hide (C.Mid.join (S.node a) [] HMID.out HC.out.1 HC.out.2)
            have q6 : (m7 : Int) ≤ (tc : Int) := by have := HNM.out; omega
            obtain ⟨fs2, hfs2⟩ : ∃ n, n = 2 * fs := ⟨_, rfl⟩
            have qm : IntKind.u64.wrap (2 * (fs : Int)) = (fs2 : Int) := by rw [IntKind.wrap_u64]; omega
            have HFS2 := hide hfs2
            have hld := load_bk (below_range BZ1.out GT.out.2 HRF.out) LF.out
            obtain ⟨A2, Y2, hal, hst, ry, by_, sy⟩ := lay_bk Z1 ⟨fb, fs, fh⟩ LF.out
            obtain ⟨gf, hgf⟩ : ∃ g, g = Z1.heap.size := ⟨_, rfl⟩
            rw [← hgf] at hal hst ry
            have RF := hide ry
            have BY2 := hide (BZ1.out.trans (by_.mono BZ1.out.size))
            have GF := hide (show wr.heap.size ≤ gf by rw [hgf]; exact BZ1.out.size)
            have RY2 : Hid (Y2.heap[gb]? = some (.cells (encB ⟨yb, ys, yh⟩).toArray 93 (0, 0))) := (BY2.out.block _ (block_lt_of_row RY.out)).trans RY.out
            have HRP := hide ((HR.out.pop (fun y hy => by
              rcases List.mem_append.1 hy with hy | hy
              · exact encB_length _ (T32.out y (by simp [List.mem_reverse.1 hy]))
              · simp only [List.mem_singleton] at hy; rw [hy]; exact encB_length _ LF.out)).below BY2.out)
            rw [List.length_reverse, ← HM7.out] at HRP
            have hgbl := block_lt_of_row RY.out
            obtain ⟨VF, hVF⟩ : ∃ V, V = Value.agg (encB ⟨fb, fs, fh⟩).toArray := ⟨_, rfl⟩
            rw [← hVF] at hld hst
            have BZY := hide (BZ.out.trans (BY2.out.mono BZ.out.size))
            have T32N := hide (show ∀ f ∈ tt, f.h.length = 32 from fun f hf => T32.out f (by simp [hf]))
            clear hfs2 hVF hgf ry by_ sy HC HDEC HF HMID T32 HR HRF hsz93 hsz93y BZ1 RY
            go_wp2_with (first | (with_reducible refine at_op { dst := some 43, op := Op.load 93 (Operand.tmp 42), type := 93, pos := "block.go:61", after := #[{ on := 4, ground := Ground.data }], guard := none } ?_; refine wpList_load_as rfl 93 (.tmp 42) rfl (.pointer (some ⟨gt, m7 * 34, none⟩)) rfl VF hld ?_) | (with_reducible refine at_op { dst := some 10, op := Op.alloc 93, type := 0, pos := "block.go:61", after := #[], guard := none } ?_; refine wpList_alloc_known rfl 93 rfl (.pointer (some ⟨gf, 0, none⟩)) A2 hal ?_) | (with_reducible refine at_op { dst := none, op := Op.store 93 (Operand.tmp 10) (Operand.tmp 43), type := 0, pos := "block.go:61", after := #[{ on := 6, ground := Ground.data }, { on := 5, ground := Ground.data }, { on := 0, ground := Ground.phase }, { on := 1, ground := Ground.phase }, { on := 2, ground := Ground.phase }, { on := 3, ground := Ground.phase }, { on := 4, ground := Ground.phase }, { on := 5, ground := Ground.phase }, { on := 6, ground := Ground.phase }], guard := none } ?_; refine wpList_store_as rfl 93 (.tmp 10) (.tmp 43) rfl (.pointer (some ⟨gf, 0, none⟩)) VF rfl rfl Y2 hst ?_))
            clear hld hal hst
            refine wp_region_noPanic ?_
            refine wp_region_held_drew (S := (fun W => Chg (fun k => k = gb) Y2 W)) follows ((Chg.refl _ _).drew) (fun hHeld => ?_)
            clear hHeld
            have hHeld : Chg (fun k => k = gb) Y2 Y2.drew := (Chg.refl _ _).drew
            have CZ0 := hide hHeld
            have RY2' : Hid (Y2.drew.heap[gb]? = some (.cells (encB ⟨yb, ys, yh⟩).toArray 93 (0, 0))) := RY2.out
            have RF' : Hid (Y2.drew.heap[gf]? = some (.cells (encB ⟨fb, fs, fh⟩).toArray 93 (0, 0))) := RF.out
            generalize Y2.drew = Z0 at CZ0 hHeld RY2' RF' ⊢
            refine wpAnyH_take (i := 0) (oi := { dst := some 49, op := Op.fieldAddr 93 (Operand.tmp 10) 0, type := 0, pos := "block.go:63", after := #[], guard := none }) (v := ?_) rfl (by kernel_rfl) (by kernel_rfl) (by kernel_rfl) (fun _ _ _ h => h) (Or.inl ⟨by rfl, ?_⟩) (by assumption) ?_
            rotate_left
            · intro w hSw
              clear hSw
              go_simp
              all_goals with_reducible rfl
            simp only [Act.put, List.setIfInBounds_toArray, List.set_cons_zero, List.set_cons_succ]
            refine wpAnyH_take (i := 1) (oi := { dst := some 50, op := Op.load 27 (Operand.tmp 49), type := 27, pos := "block.go:63", after := #[{ on := 0, ground := Ground.data }], guard := none }) (v := ?_) rfl (by kernel_rfl) (by kernel_rfl) (by kernel_rfl) (fun _ _ _ h => h) (Or.inl ⟨by rfl, ?_⟩) (by assumption) ?_
            rotate_left
            · intro w hSw
              obtain ⟨c0, c1, -⟩ := encB_cells (hSw.row RF.out (by have := GF.out; omega))
              clear hSw
              go_simp
              all_goals with_reducible rfl
            simp only [Act.put, List.setIfInBounds_toArray, List.set_cons_zero, List.set_cons_succ]
            refine wpAnyH_take (i := 2) (oi := { dst := some 51, op := Op.fieldAddr 93 (Operand.tmp 10) 1, type := 0, pos := "block.go:63", after := #[], guard := none }) (v := ?_) rfl (by kernel_rfl) (by kernel_rfl) (by kernel_rfl) (fun _ _ _ h => h) (Or.inl ⟨by rfl, ?_⟩) (by assumption) ?_
            rotate_left
            · intro w hSw
              clear hSw
              go_simp
              all_goals with_reducible rfl
            simp only [Act.put, List.setIfInBounds_toArray, List.set_cons_zero, List.set_cons_succ]
            refine wpAnyH_take (i := 3) (oi := { dst := some 52, op := Op.load 27 (Operand.tmp 51), type := 27, pos := "block.go:63", after := #[{ on := 2, ground := Ground.data }], guard := none }) (v := ?_) rfl (by kernel_rfl) (by kernel_rfl) (by kernel_rfl) (fun _ _ _ h => h) (Or.inl ⟨by rfl, ?_⟩) (by assumption) ?_
            rotate_left
            · intro w hSw
              obtain ⟨c0, c1, -⟩ := encB_cells (hSw.row RF.out (by have := GF.out; omega))
              clear hSw
              go_simp
              all_goals with_reducible rfl
            simp only [Act.put, List.setIfInBounds_toArray, List.set_cons_zero, List.set_cons_succ]
            refine wpAnyH_take (i := 4) (oi := { dst := some 53, op := Op.binOp BinOp.mul 27 (Operand.const (Value.int IntKind.u64 2)) (Operand.tmp 52) 27, type := 27, pos := "block.go:63", after := #[{ on := 3, ground := Ground.data }], guard := none }) (v := ?_) rfl (by kernel_rfl) (by kernel_rfl) (by kernel_rfl) (fun _ _ _ h => h) (Or.inl ⟨by rfl, ?_⟩) (by assumption) ?_
            rotate_left
            · intro w hSw
              clear hSw
              go_simp
              all_goals with_reducible rfl
            simp only [Act.put, List.setIfInBounds_toArray, List.set_cons_zero, List.set_cons_succ]
            refine wpAnyH_take (i := 5) (oi := { dst := some 54, op := Op.move (Operand.tmp 0), type := 3, pos := "block.go:63", after := #[], guard := none }) (v := ?_) rfl (by kernel_rfl) (by kernel_rfl) (by kernel_rfl) (fun _ _ _ h => h) (Or.inl ⟨by rfl, ?_⟩) (by assumption) ?_
            rotate_left
            · intro w hSw
              clear hSw
              go_simp
              all_goals with_reducible rfl
            simp only [Act.put, List.setIfInBounds_toArray, List.set_cons_zero, List.set_cons_succ]
            refine wpAnyH_take (i := 6) (oi := { dst := some 55, op := Op.fieldAddr 93 (Operand.tmp 10) 2, type := 0, pos := "block.go:63", after := #[], guard := none }) (v := ?_) rfl (by kernel_rfl) (by kernel_rfl) (by kernel_rfl) (fun _ _ _ h => h) (Or.inl ⟨by rfl, ?_⟩) (by assumption) ?_
            rotate_left
            · intro w hSw
              clear hSw
              go_simp
              all_goals with_reducible rfl
            simp only [Act.put, List.setIfInBounds_toArray, List.set_cons_zero, List.set_cons_succ]
            refine wpAnyH_take (i := 7) (oi := { dst := some 56, op := Op.load 23 (Operand.tmp 55), type := 23, pos := "block.go:63", after := #[{ on := 6, ground := Ground.data }], guard := none }) (v := .agg (S.v8l fh).toArray) rfl (by kernel_rfl) (by kernel_rfl) (by kernel_rfl) (fun _ _ _ h => h) (yieldsIf_load_mid (by rfl) _ _ rfl gf 2 rfl (S.v8l fh) _ (fun _ hSw => (encB_cells (hSw.row RF.out (by have := GF.out; omega))).2.2) Tryd.underlying23 rfl (show _ = some (S.v8l fh).toArray.size by rw [← S.v8_eq]; exact size_dig fh LF.out)) (by assumption) ?_
            simp only [Act.put, List.setIfInBounds_toArray, List.set_cons_zero, List.set_cons_succ]
            refine wpAnyH_take (i := 8) (oi := { dst := some 57, op := Op.fieldAddr 93 (Operand.tmp 9) 2, type := 0, pos := "block.go:63", after := #[], guard := none }) (v := ?_) rfl (by kernel_rfl) (by kernel_rfl) (by kernel_rfl) (fun _ _ _ h => h) (Or.inl ⟨by rfl, ?_⟩) (by assumption) ?_
            rotate_left
            · intro w hSw
              clear hSw
              go_simp
              all_goals with_reducible rfl
            simp only [Act.put, List.setIfInBounds_toArray, List.set_cons_zero, List.set_cons_succ]
            refine wpAnyH_ready (rs := [9]) (by kernel_rfl) (by simp) ?_
            refine step_load (o := { dst := some 58, op := Op.load 23 (Operand.tmp 57), type := 23, pos := "block.go:63", after := #[{ on := 8, ground := Ground.data }], guard := none }) rfl rfl 23 (.tmp 57) rfl (.agg (S.v8 yh)) (load_dmid (encB_cells RY2'.out).2.2 LY.out) AllReadyH.nil ⟨CZ0.out, fun hHeld => ?_⟩
            simp only [Act.put, List.setIfInBounds_toArray, List.set_cons_zero, List.set_cons_succ]
            refine wpAnyH_ready (rs := [10]) (by kernel_rfl) (by simp) ?_
            refine AllReadyH.cons (o := { dst := some 59, op := Op.call { callee := Callee.value (Operand.func 37), args := #[Operand.tmp 54, Operand.tmp 56, Operand.tmp 58], argTypes := #[3, 23, 23] }, type := 23, pos := "block.go:63", after := #[{ on := 5, ground := Ground.data }, { on := 7, ground := Ground.data }, { on := 9, ground := Ground.data }], guard := none }) rfl (fun K hK => ?_) AllReadyH.nil
            go_simp
            refine (node_any a fh yh LF.out LY.out Z0 (HK.out.below (((BB.out.trans ((CZC.out.below w.heap.size BB.out.size (fun _ _ e => e)))).trans (BZY.out.mono (Nat.le_trans BB.out.size hR2.out))).trans (CZ0.out.below w.heap.size (Nat.le_trans (Nat.le_trans BB.out.size hR2.out) BZY.out.size) (fun k hk e => by have := GB.out; have := hR2.out; omega))) h0)).mono ?_
            rintro e Z1 ⟨rfl, hb2⟩
            obtain ⟨E, hE⟩ : ∃ DD, DD = S.node a fh yh := ⟨_, rfl⟩
            rw [← hE]
            have LE := hide (show E.length = 32 by rw [hE]; exact S.node_length _ _ _)
            have EE := hide hE
            clear hE
            replace RY2' : Hid (Z1.heap[gb]? = some (.cells (encB ⟨yb, ys, yh⟩).toArray 93 (0, 0))) := (hb2.block _ (block_lt_of_row RY2'.out)).trans RY2'.out
            replace RF' : Hid (Z1.heap[gf]? = some (.cells (encB ⟨fb, fs, fh⟩).toArray 93 (0, 0))) := (hb2.block _ (block_lt_of_row RF'.out)).trans RF'.out
            have CZ1 : Hid (Chg (fun k => k = gb) Y2 Z1) := CZ0.out.then hb2
            clear hb2 CZ0
            clear hHeld
            refine hK.out _ _ CZ1.out (fun hHeld => ?_)
            clear hK K
            try simp only [Act.put, List.setIfInBounds_toArray, List.set_cons_zero, List.set_cons_succ]
            refine wpAnyH_ready (rs := [11]) (by kernel_rfl) (by simp) ?_
            refine step_build_as (o := { dst := some 60, op := Op.build 93 #[(0, Operand.tmp 50), (1, Operand.tmp 53), (2, Operand.tmp 59)], type := 93, pos := "block.go:63", after := #[{ on := 1, ground := Ground.data }, { on := 4, ground := Ground.data }, { on := 10, ground := Ground.data }], guard := none }) rfl rfl 93 [(0, .tmp 50), (1, .tmp 53), (2, .tmp 59)] rfl [(0, .int .u64 (fb : Int)), (1, .int .u64 (fs2 : Int)), (2, .agg (S.v8 E))] rfl (.agg (encB ⟨fb, fs2, E⟩).toArray) (build93 fb fs2 E LE.out Z1) AllReadyH.nil ⟨CZ1.out, fun hHeld => ?_⟩
            simp only [Act.put, List.setIfInBounds_toArray, List.set_cons_zero, List.set_cons_succ]
            refine wpAnyH_ready (rs := [12]) (by kernel_rfl) (by simp) ?_
            obtain ⟨Z2, hst, r6, C6, s6⟩ := store_bk (x := ⟨fb, fs2, E⟩) RY2'.out (by rw [List.size_toArray]; exact encB_length _ LY.out) LE.out
            refine step_store_as (o := { dst := none, op := Op.store 93 (Operand.tmp 9) (Operand.tmp 60), type := 0, pos := "block.go:63", after := #[{ on := 11, ground := Ground.data }, { on := 10, ground := Ground.chain }, { on := 0, ground := Ground.phase }, { on := 1, ground := Ground.phase }, { on := 2, ground := Ground.phase }, { on := 3, ground := Ground.phase }, { on := 4, ground := Ground.phase }, { on := 5, ground := Ground.phase }, { on := 6, ground := Ground.phase }, { on := 7, ground := Ground.phase }, { on := 8, ground := Ground.phase }, { on := 9, ground := Ground.phase }, { on := 10, ground := Ground.phase }, { on := 11, ground := Ground.phase }], guard := none }) rfl rfl 93 (.tmp 9) (.tmp 60) rfl _ _ rfl rfl Z2 hst AllReadyH.nil ⟨CZ1.out.trans C6 (fun k hk e => by first | exact e | exact Or.inl e | exact Or.inr e | omega), fun hHeld => ?_⟩
            replace RY2' : Hid (Z2.heap[gb]? = some (.cells (encB ⟨fb, fs2, E⟩).toArray 93 (0, 0))) := r6
            replace RF' : Hid (Z2.heap[gf]? = some (.cells (encB ⟨fb, fs, fh⟩).toArray 93 (0, 0))) := C6.row RF'.out (by have := GF.out; omega)
            have CZ2 : Hid (Chg (fun k => k = gb) Y2 Z2) := CZ1.out.trans C6 (fun k hk e => by first | exact e | exact Or.inl e | exact Or.inr e | omega)
            clear hst r6 C6 s6 CZ1
            simp only [Act.put]
            refine wpAnyH_done (by kernel_rfl) ?_ _
            refine NoPanic.normal ?_
            clear hHeld
            have CY := CZ2
            have BF := hide (BZY.out.trans (CZ2.out.below ZC.heap.size BZY.out.size (fun k hk e => by have := GB.out; omega)))
            have HRN := hide (HRP.out.chg CZ2.out (fun j hj e => by simp only [Value.ownBlock, Option.some.injEq] at hj; have := NEG.out; omega))
            have NEN := hide (show (Value.slice (some ⟨gt, 0, none⟩) m7 tc).ownBlock ≠ some gb from fun e => by simp only [Value.ownBlock, Option.some.injEq] at e; exact NEG.out e)
            go_wp2_with fail
            go_roundg (tt.length)
            case measure => have := hg2; simp at this; omega
            case rel => exact ⟨tt, ⟨fb, fs2, E⟩, rfl, by simp at htl; omega, by rw [HFS2.out, EE.out]; exact HFN, by rw [HFS2.out, EE.out]; exact HMN, T32N, LE, RY2', HRN, NEN, BF⟩
          · have HDEC := hide (show decide (fs = ys ∧ fb % (2 * fs) = 0) = false from decide_eq_false hc)
            have HC := hide hc
            clear hc
            go_wp2_with fail
            refine wp_region_noPanic ?_
            refine wp_region_held_drew (S := (fun W => Chg (fun _ => False) wr W)) follows ((Chg.refl _ _).drew) (fun hHeld => ?_)
            clear hHeld
            have hHeld : Chg (fun _ => False) wr wr.drew := (Chg.refl _ _).drew
            have CZ0 := hide hHeld
            generalize wr.drew = Z0 at CZ0 hHeld ⊢
            refine wpAnyH_take (i := 0) (oi := { dst := some 25, op := Op.move (Operand.tmp 7), type := 90, pos := "block.go:60", after := #[], guard := none }) (v := ?_) rfl (by kernel_rfl) (by kernel_rfl) (by kernel_rfl) (fun _ _ _ h => h) (Or.inl ⟨by rfl, ?_⟩) (by assumption) ?_
            rotate_left
            · intro w hSw
              clear hSw
              go_simp
              all_goals with_reducible rfl
            simp only [Act.put, List.setIfInBounds_toArray, List.set_cons_zero, List.set_cons_succ]
            refine wpAnyH_take (i := 1) (oi := { dst := some 26, op := Op.call { callee := Callee.builtin Builtin.len, args := #[Operand.tmp 25], argTypes := #[90] }, type := 3, pos := "block.go:60", after := #[{ on := 0, ground := Ground.data }], guard := none }) (v := ?_) rfl (by kernel_rfl) (by kernel_rfl) (by kernel_rfl) (fun _ _ _ h => h) (Or.inl ⟨by rfl, ?_⟩) (by assumption) ?_
            rotate_left
            · intro w hSw
              clear hSw
              go_simp
              all_goals with_reducible rfl
            simp only [Act.put, List.setIfInBounds_toArray, List.set_cons_zero, List.set_cons_succ]
            refine wpAnyH_take (i := 2) (oi := { dst := some 27, op := Op.binOp BinOp.gtr 3 (Operand.tmp 26) (Operand.const (Value.int IntKind.i64 0)) 3, type := 4, pos := "block.go:60", after := #[{ on := 1, ground := Ground.data }], guard := none }) (v := ?_) rfl (by kernel_rfl) (by kernel_rfl) (by kernel_rfl) (fun _ _ _ h => h) (Or.inl ⟨by rfl, ?_⟩) (by assumption) ?_
            rotate_left
            · intro w hSw
              clear hSw
              go_simp
              all_goals with_reducible rfl
            simp only [Act.put, List.setIfInBounds_toArray, List.set_cons_zero, List.set_cons_succ]
            refine wpAnyH_take (i := 3) (oi := { dst := some 28, op := Op.move (Operand.tmp 27), type := 4, pos := "block.go:60", after := #[{ on := 2, ground := Ground.data }], guard := none }) (v := ?_) rfl (by kernel_rfl) (by kernel_rfl) (by kernel_rfl) (fun _ _ _ h => h) (Or.inl ⟨by rfl, ?_⟩) (by assumption) ?_
            rotate_left
            · intro w hSw
              clear hSw
              go_simp
              all_goals with_reducible rfl
            simp only [Act.put, List.setIfInBounds_toArray, List.set_cons_zero, List.set_cons_succ]
            refine wpAnyH_take (i := 4) (oi := { dst := some 29, op := Op.move (Operand.tmp 7), type := 90, pos := "block.go:60", after := #[{ on := 3, ground := Ground.guard }], guard := some (3, true) }) (v := ?_) rfl (by kernel_rfl) (by kernel_rfl) (by kernel_rfl) (fun _ _ _ h => h) (Or.inl ⟨by rfl, ?_⟩) (by assumption) ?_
            rotate_left
            · intro w hSw
              clear hSw
              go_simp
              all_goals with_reducible rfl
            simp only [Act.put, List.setIfInBounds_toArray, List.set_cons_zero, List.set_cons_succ]
            refine wpAnyH_take (i := 5) (oi := { dst := some 30, op := Op.move (Operand.tmp 7), type := 90, pos := "block.go:60", after := #[{ on := 3, ground := Ground.guard }], guard := some (3, true) }) (v := ?_) rfl (by kernel_rfl) (by kernel_rfl) (by kernel_rfl) (fun _ _ _ h => h) (Or.inl ⟨by rfl, ?_⟩) (by assumption) ?_
            rotate_left
            · intro w hSw
              clear hSw
              go_simp
              all_goals with_reducible rfl
            simp only [Act.put, List.setIfInBounds_toArray, List.set_cons_zero, List.set_cons_succ]
            refine wpAnyH_take (i := 6) (oi := { dst := some 31, op := Op.call { callee := Callee.builtin Builtin.len, args := #[Operand.tmp 30], argTypes := #[90] }, type := 3, pos := "block.go:60", after := #[{ on := 5, ground := Ground.data }, { on := 3, ground := Ground.guard }], guard := some (3, true) }) (v := ?_) rfl (by kernel_rfl) (by kernel_rfl) (by kernel_rfl) (fun _ _ _ h => h) (Or.inl ⟨by rfl, ?_⟩) (by assumption) ?_
            rotate_left
            · intro w hSw
              clear hSw
              go_simp
              all_goals with_reducible rfl
            simp only [Act.put, List.setIfInBounds_toArray, List.set_cons_zero, List.set_cons_succ]
            refine wpAnyH_take (i := 7) (oi := { dst := some 32, op := Op.binOp BinOp.sub 3 (Operand.tmp 31) (Operand.const (Value.int IntKind.i64 1)) 3, type := 3, pos := "block.go:60", after := #[{ on := 6, ground := Ground.data }, { on := 3, ground := Ground.guard }], guard := some (3, true) }) (v := ?_) rfl (by kernel_rfl) (by kernel_rfl) (by kernel_rfl) (fun _ _ _ h => h) (Or.inl ⟨by rfl, ?_⟩) (by assumption) ?_
            rotate_left
            · intro w hSw
              clear hSw
              go_simp
              all_goals with_reducible rfl
            simp only [Act.put, List.setIfInBounds_toArray, List.set_cons_zero, List.set_cons_succ]
            refine wpAnyH_take (i := 8) (oi := { dst := some 33, op := Op.indexAddr 90 (Operand.tmp 29) (Operand.tmp 32), type := 0, pos := "block.go:60", after := #[{ on := 4, ground := Ground.data }, { on := 7, ground := Ground.data }, { on := 3, ground := Ground.guard }], guard := some (3, true) }) (v := ?_) rfl (by kernel_rfl) (by kernel_rfl) (by kernel_rfl) (fun _ _ _ h => h) (Or.inl ⟨by rfl, ?_⟩) (by assumption) ?_
            rotate_left
            · intro w hSw
              clear hSw
              go_simp
              all_goals with_reducible rfl
            simp only [Act.put, List.setIfInBounds_toArray, List.set_cons_zero, List.set_cons_succ]
            refine wpAnyH_take (i := 9) (oi := { dst := some 34, op := Op.load 93 (Operand.tmp 33), type := 93, pos := "block.go:60", after := #[{ on := 8, ground := Ground.data }, { on := 3, ground := Ground.guard }], guard := some (3, true) }) (v := .agg (encB ⟨fb, fs, fh⟩).toArray) rfl (by kernel_rfl) (by kernel_rfl) (by kernel_rfl) (fun _ _ _ h => h) (yieldsIf_load_mid (by rfl) _ _ rfl gt (m7 * 34) rfl (encB ⟨fb, fs, fh⟩) _ (fun _ hSw => below_range (hSw.below wr.heap.size (Nat.le_refl _) (fun _ _ e => e)) GT.out.2 HRF.out) Tryd.underlying93 rfl hsz93) (by assumption) ?_
            simp only [Act.put, List.setIfInBounds_toArray, List.set_cons_zero, List.set_cons_succ]
            refine wpAnyH_take (i := 10) (oi := { dst := some 35, op := Op.load 93 (Operand.tmp 9), type := 93, pos := "block.go:60", after := #[{ on := 3, ground := Ground.guard }], guard := some (3, true) }) (v := .agg (encB ⟨yb, ys, yh⟩).toArray) rfl (by kernel_rfl) (by kernel_rfl) (by kernel_rfl) (fun _ _ _ h => h) (yieldsIf_load_mid (by rfl) _ _ rfl gb 0 rfl (encB ⟨yb, ys, yh⟩) _ (fun _ hSw => rangeAt_row (hSw.row RY.out (fun e => e))) Tryd.underlying93 rfl hsz93y) (by assumption) ?_
            simp only [Act.put, List.setIfInBounds_toArray, List.set_cons_zero, List.set_cons_succ]
            refine wpAnyH_ready (rs := [11]) (by kernel_rfl) (by simp) ?_
            refine AllReadyH.cons (o := { dst := some 36, op := Op.call { callee := Callee.value (Operand.func 54), args := #[Operand.tmp 34, Operand.tmp 35], argTypes := #[93, 93] }, type := 4, pos := "block.go:60", after := #[{ on := 9, ground := Ground.data }, { on := 10, ground := Ground.data }, { on := 3, ground := Ground.chain }, { on := 3, ground := Ground.guard }], guard := some (3, true) }) rfl (fun K hK => ?_) AllReadyH.nil
            go_simp
            refine (halves_any ⟨fb, fs, fh⟩ ⟨yb, ys, yh⟩ Z0 hfs0 (show fs ≤ 4294967296 by omega)).mono ?_
            rintro e Z1 ⟨rfl, hb2⟩
            rw [show decide ((C.Bk.mk fb fs fh).s = (C.Bk.mk yb ys yh).s ∧ (C.Bk.mk fb fs fh).b % (2 * (C.Bk.mk fb fs fh).s) = 0) = _ from HDEC.out]
            have CZ1 : Hid (Chg (fun _ => False) wr Z1) := CZ0.out.then hb2
            clear hb2 CZ0
            clear hHeld
            refine hK.out _ _ CZ1.out (fun hHeld => ?_)
            clear hK K
            try simp only [Act.put, List.setIfInBounds_toArray, List.set_cons_zero, List.set_cons_succ]
            refine wpAnyH_take (i := 12) (oi := { dst := some 37, op := Op.pick (Operand.tmp 28) (Operand.tmp 36) (Operand.const (Value.bool false)), type := 4, pos := "block.go:60", after := #[{ on := 3, ground := Ground.data }, { on := 11, ground := Ground.data }], guard := none }) (v := ?_) rfl (by kernel_rfl) (by kernel_rfl) (by kernel_rfl) (fun _ _ _ h => h) (Or.inl ⟨by rfl, ?_⟩) (by assumption) ?_
            rotate_left
            · intro w hSw
              clear hSw
              go_simp
              all_goals with_reducible rfl
            simp only [Act.put, List.setIfInBounds_toArray, List.set_cons_zero, List.set_cons_succ]
            refine wpAnyH_done (by kernel_rfl) ?_ _
            refine NoPanic.normal ?_
            clear hHeld
            have BZ1 : Hid (Below wr.heap.size wr Z1) := (CZ1.out.below _ (Nat.le_refl _) (fun _ _ e => e))
            clear CZ1
            go_upto_region 9 with fail
            have HFN := hide (HF.out.trans (C.push_stay (S.node a) ⟨fb, fs, fh⟩ tt ⟨yb, ys, yh⟩ HC.out))
            have hrev := hide (show F.reverse = (tt.reverse ++ [⟨fb, fs, fh⟩]) ++ [⟨yb, ys, yh⟩] by rw [HFN.out]; simp)
            have HR1 := hide (HR.out.below BZ1.out)
            have RY1 : Hid (Z1.heap[gb]? = some (.cells (encB ⟨yb, ys, yh⟩).toArray 93 (0, 0))) := (BZ1.out.block _ (block_lt_of_row RY.out)).trans RY.out
            have BZZ := hide (BZ.out.trans (BZ1.out.mono BZ.out.size))
            have hln := hide (show (tt.reverse ++ [C.Bk.mk fb fs fh]).length ≤ 129 by rw [List.length_append, List.length_reverse, ← HM7.out]; simp only [List.length_cons, List.length_nil]; have := HNM.out; omega)
            generalize tt.reverse ++ [C.Bk.mk fb fs fh] = olds at hrev HR1 hln
            clear HC HDEC HF HMID T32 HR HRF hsz93 hsz93y BZ1 RY
            have hld := load_bk (rangeAt_row RY1.out) LY.out
            have hbs := bs90one Z1 ⟨yb, ys, yh⟩ LY.out
            obtain ⟨X, hX⟩ : ∃ X, X = Z1.alloc (.cells (encB ⟨yb, ys, yh⟩).toArray 93) := ⟨_, rfl⟩
            rw [← hX] at hbs
            have bx : Below Z1.heap.size Z1 X := by rw [hX]; exact (Below.refl _ _).alloc (Nat.le_refl _) _
            have rx : X.heap[Z1.heap.size]? = some (.cells (encB ⟨yb, ys, yh⟩).toArray 93 (0, 0)) := by rw [hX]; exact heap_alloc_new _ _
            have HRX := HR1.out.below bx
            have KEY := hide (Rw.append kdB 90 HRX (Sce.of_row (c := 1) rx) (fun y hy => by simp only [List.mem_singleton] at hy; rw [hy]; exact encB_length _ LY.out) (by simp only [List.length_cons, List.length_nil]; have := hln.out; omega) (Nat.le_trans BZZ.out.size bx.size))
            have BX := hide (BZZ.out.trans (bx.mono BZZ.out.size))
            have HW := hide (fun j (e : (Value.slice (some ⟨gt, 0, none⟩) n7 tc).ownBlock = some j) => (HRX.blk e).1)
            rw [← hrev.out] at KEY
            obtain ⟨gx, hgx⟩ : ∃ g, g = Z1.heap.size := ⟨_, rfl⟩
            rw [← hgx] at hbs KEY
            obtain ⟨VY, hVY⟩ : ∃ V, V = Value.agg (encB ⟨yb, ys, yh⟩).toArray := ⟨_, rfl⟩
            rw [← hVY] at hbs hld
            clear bx rx hX hgx hVY HRX HR1 RY1
            go_wp2_with (first | (with_reducible refine at_op { dst := some 62, op := Op.load 93 (Operand.tmp 9), type := 93, pos := "block.go:65", after := #[], guard := none } ?_; refine wpList_load_as rfl 93 (.tmp 9) rfl (.pointer (some ⟨gb, 0, none⟩)) rfl VY hld ?_) | (with_reducible refine at_op { dst := some 63, op := Op.buildSlice 90 1 #[(0, Operand.tmp 62)], type := 90, pos := "block.go:65", after := #[{ on := 1, ground := Ground.data }], guard := none } ?_; refine wpList_buildSlice_as rfl 90 1 [(0, .tmp 62)] rfl [(0, VY)] rfl _ _ hbs ?_) | (at_builtin; (refine wpList_append_known rfl (.tmp 61) (.tmp 63) 90 90 rfl _ _ rfl rfl KEY.out ?_; rintro v' Y9 ⟨hR', hC'⟩; have RN := hide hR'; have BN := hide (BX.out.trans (hC'.below _ BX.out.size (fun k hk e => by have := HW.out _ e; omega))); clear hR' hC')))
            go_roundg gO
            case measure => omega
            case rel => exact ⟨k + 1, F, by omega, by first | rfl | simp, HINV, F32, RN, BN⟩
end Go.Proofs.YtkljajfgdelfgaaDoor
