/- Is a beginning shown? -/
import Derived.Test.YtlbggkmblkhjoaaDoorWh
import Derived.Deep.CutRange
import Derived.Laws.Bits64b
namespace Go.Proofs.YtlbggkmblkhjoaaDoor
open Go.RowKit

theorem load_dig_when {ops : Array Oper} {rest : List Oper} {o : Oper} {a : Act} {w : World} {Q : Exit → Act → World → Prop} (hw : Region.wanted o (yielded ops a.tmps) = true) (x : Operand) (ho : o.op = .load 23 x)
    (g : Nat) (hx : a.eval x = .pointer (some ⟨g, 0, none⟩)) (D : List UInt8) (hg : w.heap[g]? = some (.cells (S.v8 D) 23 (0, 0))) (hD : D.length = 32)
    (h : wpList Tryd.prog ops Q rest (a.put o.dst (.agg (S.v8 D))) w) : wpList Tryd.prog ops Q (o :: rest) a w :=
  wpList_step fun _ hK => by rw [if_pos hw]; exact wp_load_row 23 x ho g hx 23 (S.v8 D) (0, 0) _ hg Tryd.underlying23 rfl (size_dig D hD) (hK _ _ h)
theorem DgAt.tail {w : World} {g off N cap : Nat} {ps : List (List UInt8)} (h : DgAt w (.slice (some ⟨g, off, none⟩) N cap) ps) (o : Nat) (c : Nat) (ho : 1 < N → o = off + 32) : DgAt w (.slice (some ⟨g, o, none⟩) (N - 1) c) (ps.drop 1) := by
  obtain ⟨ao, cap', e, h1, h2, h3⟩ := h
  simp only [Value.slice.injEq] at e
  obtain ⟨rfl, rfl, rfl⟩ := e
  refine ⟨some ⟨g, o, none⟩, c, by simp, by rw [List.length_drop]; omega, fun d hd => h2 d (List.mem_of_mem_drop hd), fun hp => ?_⟩
  rw [List.length_drop] at hp
  obtain ⟨g', off', e2, h4, h5⟩ := h3 (by omega)
  simp only [Option.some.injEq, Addr.mk.injEq] at e2
  obtain ⟨rfl, rfl, _⟩ := e2
  refine ⟨g, o, rfl, h4, fun j hj => ?_⟩
  rw [List.length_drop] at hj
  have := h5 (j + 1) (by omega)
  rw [ho (by omega), show off + 32 + j * 32 = off + (j + 1) * 32 by omega]
  rw [List.getD_eq_getElem?_getD, List.getElem?_drop, Nat.add_comm 1 j, ← List.getD_eq_getElem?_getD]
  exact this
theorem S.vPre_pow (a : Int) (m n : Nat) (old rt : List UInt8) (ps : List (List UInt8)) (h0 : m ≠ 0) (h1 : m < n) (h2 : ps ≠ []) (h3 : m &&& (m - 1) = 0) : S.vPre a m n old rt ps = decide (V.runP (S.node a) (V.low 64 (m - 1) (n - 1)).1 (V.low 64 (m - 1) (n - 1)).2 (S.cut old (S.cw a)) (S.cut old (S.cw a)) ps = some (S.cut old (S.cw a), S.cut rt (S.cw a))) := by
  unfold S.vPre
  rw [if_neg (by omega), if_neg (by omega), if_neg h2, if_pos h3, List.singleton_append, V.pre, S.runP_cut]
theorem S.vPre_not (a : Int) (m n : Nat) (old rt p : List UInt8) (ps : List (List UInt8)) (h0 : m ≠ 0) (h1 : m < n) (h3 : m &&& (m - 1) ≠ 0) : S.vPre a m n old rt (p :: ps) = decide (V.runP (S.node a) (V.low 64 (m - 1) (n - 1)).1 (V.low 64 (m - 1) (n - 1)).2 (S.cut p (S.cw a)) (S.cut p (S.cw a)) ps = some (S.cut old (S.cw a), S.cut rt (S.cw a))) := by
  unfold S.vPre
  rw [if_neg (by omega), if_neg (by omega), if_neg (by simp), if_neg h3, List.nil_append, List.map_cons, V.pre, S.runP_cut]
theorem S.told_dd (ok : Bool) (x y D E : List UInt8) (O : Option (List UInt8 × List UInt8)) (h : O = if ok then some (x, y) else none) : decide (O = some (D, E)) = (ok && (x == D) && (y == E)) := by
  subst h
  cases ok
  · simp
  · simp [Bool.beq_eq_decide_eq]
/-- Two digests are laid into new variables. -/
theorem lay_dig2 (w : World) (D E : List UInt8) (hD : D.length = 32) (hE : E.length = 32) : ∃ A1 A2 Z1 Z2, (Instr.alloc 23 true (.tuple #[])).run Tryd.prog w = .ok (.pointer (some ⟨w.heap.size, 0, none⟩)) A1 ∧ (Instr.alloc 23 true (.tuple #[])).run Tryd.prog A1 = .ok (.pointer (some ⟨w.heap.size + 1, 0, none⟩)) A2 ∧
    (Instr.storeAt 23 (.pointer (some ⟨w.heap.size, 0, none⟩)) (.agg (S.v8 D))).run Tryd.prog A2 = .ok () Z1 ∧ (Instr.storeAt 23 (.pointer (some ⟨w.heap.size + 1, 0, none⟩)) (.agg (S.v8 E))).run Tryd.prog Z1 = .ok () Z2 ∧ Z2.heap[w.heap.size]? = some (.cells (S.v8 D) 23 (0, 0)) ∧ Z2.heap[w.heap.size + 1]? = some (.cells (S.v8 E) 23 (0, 0)) ∧ Below w.heap.size w Z2 := by
  have s1 : (w.alloc (.cells (S.v8 (S.zeros 32)) 23)).heap.size = w.heap.size + 1 := by simp
  have a2 := alloc31 (w.alloc (.cells (S.v8 (S.zeros 32)) 23))
  rw [s1] at a2
  have b1 : Below w.heap.size w (w.alloc (.cells (S.v8 (S.zeros 32)) 23)) := (Below.refl _ _).alloc (Nat.le_refl _) _
  have b2 : Below (w.heap.size + 1) (w.alloc (.cells (S.v8 (S.zeros 32)) 23)) ((w.alloc (.cells (S.v8 (S.zeros 32)) 23)).alloc (.cells (S.v8 (S.zeros 32)) 23)) := (Below.refl _ _).alloc (by rw [s1]; exact Nat.le_refl _) _
  have r1 : ((w.alloc (.cells (S.v8 (S.zeros 32)) 23)).alloc (.cells (S.v8 (S.zeros 32)) 23)).heap[w.heap.size]? = some (.cells (S.v8 (S.zeros 32)) 23 (0, 0)) := (b2.block _ (by omega)).trans (heap_alloc_new _ _)
  have r2 : ((w.alloc (.cells (S.v8 (S.zeros 32)) 23)).alloc (.cells (S.v8 (S.zeros 32)) 23)).heap[w.heap.size + 1]? = some (.cells (S.v8 (S.zeros 32)) 23 (0, 0)) := by rw [← s1]; exact heap_alloc_new _ _
  obtain ⟨Z1, p1, p2, p3, p4⟩ := store_dig r1 (S.zeros_length 32) hD
  obtain ⟨Z2, u1, u2, u3, u4⟩ := store_dig (p3.row r2 (by omega)) (S.zeros_length 32) hE
  refine ⟨_, _, Z1, Z2, alloc31 w, a2, p1, u1, u3.row p2 (by omega), u2, ?_⟩
  have hs2 : w.heap.size ≤ ((w.alloc (.cells (S.v8 (S.zeros 32)) 23)).alloc (.cells (S.v8 (S.zeros 32)) 23)).heap.size := by simp; omega
  exact ((b1.trans (b2.mono (by omega))).trans (p3.below _ hs2 (fun k hk e => by omega))).trans (u3.below _ (by rw [p4]; exact hs2) (fun k hk e => by omega))
set_option maxHeartbeats 16000000 in
set_option maxRecDepth 10000 in
theorem prefix_any (a : Int) (u : Value) (m n : Nat) (old rt : List UInt8) (hold : old.length = 32) (hrt : rt.length = 32) (ps : List (List UInt8)) (w : World) (hm : m < 18446744073709551616) (hn : n < 18446744073709551616) (hu : DgAt w u ps) (hcu : ∀ ao n c, u = .slice ao n c → n ≤ c) (hK : KAt w) :
   Calls Tryd.prog 12 #[.int .i64 a, .int .u64 (m : Int), .int .u64 (n : Int), .agg (S.v8 old), .agg (S.v8 rt), u] w fun e w' => e = .returned (.bool (S.vPre a m n old rt ps)) ∧ Below w.heap.size w w' := by
  obtain ⟨R, hR⟩ : ∃ R, R = S.vPre a m n old rt ps := ⟨_, rfl⟩
  rw [← hR]
  obtain ⟨uo, uc, rfl⟩ := hu.form
  have HU := hide hu
  have HK := hide hK
  have h0 := hK.pos
  have HOL := hide hold
  have HRT := hide hrt
  have HR := hide hR
  obtain ⟨N, hN⟩ : ∃ N, N = ps.length := ⟨_, rfl⟩
  rw [← hN] at HU hcu ⊢
  have HN := hide hN
  obtain ⟨D1, hD1⟩ : ∃ D, D = S.cut old (S.cw a) := ⟨_, rfl⟩
  obtain ⟨D2, hD2⟩ : ∃ D, D = S.cut rt (S.cw a) := ⟨_, rfl⟩
  have LD1 := hide (show D1.length = 32 by rw [hD1, S.cut_length]; exact hold)
  have LD2 := hide (show D2.length = 32 by rw [hD2, S.cut_length]; exact hrt)
  have ED1 := hide hD1
  have ED2 := hide hD2
  clear hu hK hold hrt hN hR hD1 hD2
  go_enter Tryd.func12, Tryd.ntmps12
  go_wp2_with fail
  generalize hW0 : w.alloc _ = W0
  generalize hW1 : W0.alloc _ = W1
  have B0 : Below w.heap.size w W0 := by rw [← hW0]; exact (Below.refl _ _).alloc (Nat.le_refl _) _
  have s0 : W0.heap.size = w.heap.size + 1 := by rw [← hW0]; simp
  have r0 : W0.heap[w.heap.size]? = some (.cells (S.v8 old) 23 (0, 0)) := by rw [← hW0]; exact heap_alloc_new _ _
  have B1 : Below W0.heap.size W0 W1 := by rw [← hW1]; exact (Below.refl _ _).alloc (Nat.le_refl _) _
  have s1 : W1.heap.size = w.heap.size + 2 := by rw [← hW1]; simp [s0]
  have r1 : W1.heap[w.heap.size + 1]? = some (.cells (S.v8 rt) 23 (0, 0)) := by rw [← hW1, ← s0]; exact heap_alloc_new _ _
  have BB : Hid (Below w.heap.size w W1) := (B0.trans (B1.mono (by omega)))
  have Q0 : Hid (W1.heap[w.heap.size]? = some (.cells (S.v8 old) 23 (0, 0))) := ((B1.block _ (by omega)).trans r0)
  have Q1 : Hid (W1.heap[w.heap.size + 1]? = some (.cells (S.v8 rt) 23 (0, 0))) := r1
  clear hW0 B0 s0 r0 hW1 B1 s1 r1
  go_cut [] from 18 (fun wc => Hid (wc.heap[w.heap.size]? = some (.cells (S.v8 D1) 23 (0, 0))) ∧ Hid (wc.heap[w.heap.size + 1]? = some (.cells (S.v8 D2) 23 (0, 0))) ∧ Hid (Below w.heap.size w wc))
  case first =>
    refine wp_region_noPanic ?_
    refine wp_region_held_drew (S := (fun W => Chg (fun k => k = w.heap.size ∨ k = w.heap.size + 1) W1 W)) follows ((Chg.refl _ _).drew) (fun hHeld => ?_)
    clear hHeld
    have hHeld : Chg (fun k => k = w.heap.size ∨ k = w.heap.size + 1) W1 W1.drew := (Chg.refl _ _).drew
    have CZ0 := hide hHeld
    have Q0' : Hid (W1.drew.heap[w.heap.size]? = some (.cells (S.v8 old) 23 (0, 0))) := Q0.out
    have Q1' : Hid (W1.drew.heap[w.heap.size + 1]? = some (.cells (S.v8 rt) 23 (0, 0))) := Q1.out
    generalize W1.drew = Z0 at CZ0 hHeld Q0' Q1' ⊢
    refine wpAnyH_take (i := 0) (oi := { dst := some 18, op := Op.move (Operand.tmp 0), type := 3, pos := "verify.go:21", after := #[], guard := none }) (v := ?_) rfl (by kernel_rfl) (by kernel_rfl) (by kernel_rfl) (fun _ _ _ h => h) (Or.inl ⟨by rfl, ?_⟩) (by assumption) ?_
    rotate_left
    · intro w hSw
      clear hSw
      go_simp
      all_goals with_reducible rfl
    simp only [Act.put, List.setIfInBounds_toArray, List.set_cons_zero, List.set_cons_succ]
    refine wpAnyH_take (i := 3) (oi := { dst := some 21, op := Op.move (Operand.tmp 0), type := 3, pos := "verify.go:21", after := #[], guard := none }) (v := ?_) rfl (by kernel_rfl) (by kernel_rfl) (by kernel_rfl) (fun _ _ _ h => h) (Or.inl ⟨by rfl, ?_⟩) (by assumption) ?_
    rotate_left
    · intro w hSw
      clear hSw
      go_simp
      all_goals with_reducible rfl
    simp only [Act.put, List.setIfInBounds_toArray, List.set_cons_zero, List.set_cons_succ]
    refine wpAnyH_ready (rs := [1, 4]) (by kernel_rfl) (by simp) ?_
    refine step_load (o := { dst := some 19, op := Op.load 23 (Operand.tmp 9), type := 23, pos := "verify.go:21", after := #[], guard := none }) rfl rfl 23 (.tmp 9) rfl (.agg (S.v8 old)) (load_dig Q0'.out HOL.out) ?_ ⟨CZ0.out, fun hHeld => ?_⟩
    rotate_left
    · skip
      simp only [Act.put, List.setIfInBounds_toArray, List.set_cons_zero, List.set_cons_succ]
      refine wpAnyH_ready (rs := [2, 4]) (by kernel_rfl) (by simp) ?_
      refine AllReadyH.cons (o := { dst := some 20, op := Op.call { callee := Callee.value (Operand.func 36), args := #[Operand.tmp 18, Operand.tmp 19], argTypes := #[3, 23] }, type := 23, pos := "verify.go:21", after := #[{ on := 0, ground := Ground.data }, { on := 1, ground := Ground.data }], guard := none }) rfl (fun K hK => ?_) ?_
      · skip
        go_simp
        refine (vcut_any a old HOL.out Z0).mono ?_
        rintro e Z1 ⟨rfl, hb2⟩
        rw [← ED1.out]
        replace Q0' : Hid (Z1.heap[w.heap.size]? = some (.cells (S.v8 old) 23 (0, 0))) := (hb2.block _ (block_lt_of_row Q0'.out)).trans Q0'.out
        replace Q1' : Hid (Z1.heap[w.heap.size + 1]? = some (.cells (S.v8 rt) 23 (0, 0))) := (hb2.block _ (block_lt_of_row Q1'.out)).trans Q1'.out
        have CZ1 : Hid (Chg (fun k => k = w.heap.size ∨ k = w.heap.size + 1) W1 Z1) := CZ0.out.then hb2
        clear hb2 CZ0
        clear hHeld
        refine hK.out _ _ CZ1.out (fun hHeld => ?_)
        clear hK K
        try simp only [Act.put, List.setIfInBounds_toArray, List.set_cons_zero, List.set_cons_succ]
        refine wpAnyH_ready (rs := [4]) (by kernel_rfl) (by simp) ?_
        refine step_load (o := { dst := some 22, op := Op.load 23 (Operand.tmp 10), type := 23, pos := "verify.go:21", after := #[], guard := none }) rfl rfl 23 (.tmp 10) rfl (.agg (S.v8 rt)) (load_dig Q1'.out HRT.out) AllReadyH.nil ⟨CZ1.out, fun hHeld => ?_⟩
        simp only [Act.put, List.setIfInBounds_toArray, List.set_cons_zero, List.set_cons_succ]
        refine wpAnyH_ready (rs := [5]) (by kernel_rfl) (by simp) ?_
        refine AllReadyH.cons (o := { dst := some 23, op := Op.call { callee := Callee.value (Operand.func 36), args := #[Operand.tmp 21, Operand.tmp 22], argTypes := #[3, 23] }, type := 23, pos := "verify.go:21", after := #[{ on := 3, ground := Ground.data }, { on := 4, ground := Ground.data }, { on := 2, ground := Ground.chain }], guard := none }) rfl (fun K hK => ?_) AllReadyH.nil
        go_simp
        refine (vcut_any a rt HRT.out Z1).mono ?_
        rintro e Z2 ⟨rfl, hb2⟩
        rw [← ED2.out]
        replace Q0' : Hid (Z2.heap[w.heap.size]? = some (.cells (S.v8 old) 23 (0, 0))) := (hb2.block _ (block_lt_of_row Q0'.out)).trans Q0'.out
        replace Q1' : Hid (Z2.heap[w.heap.size + 1]? = some (.cells (S.v8 rt) 23 (0, 0))) := (hb2.block _ (block_lt_of_row Q1'.out)).trans Q1'.out
        have CZ2 : Hid (Chg (fun k => k = w.heap.size ∨ k = w.heap.size + 1) W1 Z2) := CZ1.out.then hb2
        clear hb2 CZ1
        clear hHeld
        refine hK.out _ _ CZ2.out (fun hHeld => ?_)
        clear hK K
        try simp only [Act.put, List.setIfInBounds_toArray, List.set_cons_zero, List.set_cons_succ]
        refine wpAnyH_ready (rs := [6]) (by kernel_rfl) (by simp) ?_
        obtain ⟨Z3, hst, r6, C6, s6⟩ := store_dig Q0'.out HOL.out LD1.out
        refine step_store_as (o := { dst := none, op := Op.store 23 (Operand.tmp 9) (Operand.tmp 20), type := 0, pos := "verify.go:21", after := #[{ on := 2, ground := Ground.data }, { on := 5, ground := Ground.chain }, { on := 0, ground := Ground.phase }, { on := 1, ground := Ground.phase }, { on := 2, ground := Ground.phase }, { on := 3, ground := Ground.textOnly Departure.lateStores }, { on := 4, ground := Ground.textOnly Departure.lateStores }, { on := 5, ground := Ground.textOnly Departure.lateStoresUnsure }], guard := none }) rfl rfl 23 (.tmp 9) (.tmp 20) rfl _ _ rfl rfl Z3 hst AllReadyH.nil ⟨CZ2.out.trans C6 (fun k hk e => by first | exact e | exact Or.inl e | exact Or.inr e | omega), fun hHeld => ?_⟩
        replace Q0' : Hid (Z3.heap[w.heap.size]? = some (.cells (S.v8 D1) 23 (0, 0))) := r6
        replace Q1' : Hid (Z3.heap[w.heap.size + 1]? = some (.cells (S.v8 rt) 23 (0, 0))) := C6.row Q1'.out (by omega)
        have CZ3 : Hid (Chg (fun k => k = w.heap.size ∨ k = w.heap.size + 1) W1 Z3) := CZ2.out.trans C6 (fun k hk e => by first | exact e | exact Or.inl e | exact Or.inr e | omega)
        clear hst r6 C6 s6 CZ2
        simp only [Act.put]
        refine wpAnyH_ready (rs := [7]) (by kernel_rfl) (by simp) ?_
        obtain ⟨Z4, hst, r6, C6, s6⟩ := store_dig Q1'.out HRT.out LD2.out
        refine step_store_as (o := { dst := none, op := Op.store 23 (Operand.tmp 10) (Operand.tmp 23), type := 0, pos := "verify.go:21", after := #[{ on := 5, ground := Ground.data }, { on := 6, ground := Ground.chain }, { on := 0, ground := Ground.phase }, { on := 1, ground := Ground.phase }, { on := 2, ground := Ground.phase }, { on := 3, ground := Ground.phase }, { on := 4, ground := Ground.phase }, { on := 5, ground := Ground.phase }, { on := 6, ground := Ground.phase }], guard := none }) rfl rfl 23 (.tmp 10) (.tmp 23) rfl _ _ rfl rfl Z4 hst AllReadyH.nil ⟨CZ3.out.trans C6 (fun k hk e => by first | exact e | exact Or.inl e | exact Or.inr e | omega), fun hHeld => ?_⟩
        replace Q0' : Hid (Z4.heap[w.heap.size]? = some (.cells (S.v8 D1) 23 (0, 0))) := C6.row Q0'.out (by omega)
        replace Q1' : Hid (Z4.heap[w.heap.size + 1]? = some (.cells (S.v8 D2) 23 (0, 0))) := r6
        have CZ4 : Hid (Chg (fun k => k = w.heap.size ∨ k = w.heap.size + 1) W1 Z4) := CZ3.out.trans C6 (fun k hk e => by first | exact e | exact Or.inl e | exact Or.inr e | omega)
        clear hst r6 C6 s6 CZ3
        simp only [Act.put]
        refine wpAnyH_done (by kernel_rfl) ?_ _
        refine NoPanic.normal ?_
        clear hHeld
        have BF := hide (BB.out.trans (CZ4.out.below w.heap.size BB.out.size (fun k hk e => by omega)))
        go_wp2_with fail
        go_meet
        case rel => exact ⟨Q0', Q1', BF⟩
      refine step_load (o := { dst := some 22, op := Op.load 23 (Operand.tmp 10), type := 23, pos := "verify.go:21", after := #[], guard := none }) rfl rfl 23 (.tmp 10) rfl (.agg (S.v8 rt)) (load_dig Q1'.out HRT.out) AllReadyH.nil ⟨CZ0.out, fun hHeld => ?_⟩
      simp only [Act.put, List.setIfInBounds_toArray, List.set_cons_zero, List.set_cons_succ]
      refine wpAnyH_ready (rs := [2]) (by kernel_rfl) (by simp) ?_
      refine AllReadyH.cons (o := { dst := some 20, op := Op.call { callee := Callee.value (Operand.func 36), args := #[Operand.tmp 18, Operand.tmp 19], argTypes := #[3, 23] }, type := 23, pos := "verify.go:21", after := #[{ on := 0, ground := Ground.data }, { on := 1, ground := Ground.data }], guard := none }) rfl (fun K hK => ?_) AllReadyH.nil
      go_simp
      refine (vcut_any a old HOL.out Z0).mono ?_
      rintro e Z1 ⟨rfl, hb2⟩
      rw [← ED1.out]
      replace Q0' : Hid (Z1.heap[w.heap.size]? = some (.cells (S.v8 old) 23 (0, 0))) := (hb2.block _ (block_lt_of_row Q0'.out)).trans Q0'.out
      replace Q1' : Hid (Z1.heap[w.heap.size + 1]? = some (.cells (S.v8 rt) 23 (0, 0))) := (hb2.block _ (block_lt_of_row Q1'.out)).trans Q1'.out
      have CZ1 : Hid (Chg (fun k => k = w.heap.size ∨ k = w.heap.size + 1) W1 Z1) := CZ0.out.then hb2
      clear hb2 CZ0
      clear hHeld
      refine hK.out _ _ CZ1.out (fun hHeld => ?_)
      clear hK K
      try simp only [Act.put, List.setIfInBounds_toArray, List.set_cons_zero, List.set_cons_succ]
      refine wpAnyH_ready (rs := [5]) (by kernel_rfl) (by simp) ?_
      refine AllReadyH.cons (o := { dst := some 23, op := Op.call { callee := Callee.value (Operand.func 36), args := #[Operand.tmp 21, Operand.tmp 22], argTypes := #[3, 23] }, type := 23, pos := "verify.go:21", after := #[{ on := 3, ground := Ground.data }, { on := 4, ground := Ground.data }, { on := 2, ground := Ground.chain }], guard := none }) rfl (fun K hK => ?_) AllReadyH.nil
      go_simp
      refine (vcut_any a rt HRT.out Z1).mono ?_
      rintro e Z2 ⟨rfl, hb2⟩
      rw [← ED2.out]
      replace Q0' : Hid (Z2.heap[w.heap.size]? = some (.cells (S.v8 old) 23 (0, 0))) := (hb2.block _ (block_lt_of_row Q0'.out)).trans Q0'.out
      replace Q1' : Hid (Z2.heap[w.heap.size + 1]? = some (.cells (S.v8 rt) 23 (0, 0))) := (hb2.block _ (block_lt_of_row Q1'.out)).trans Q1'.out
      have CZ2 : Hid (Chg (fun k => k = w.heap.size ∨ k = w.heap.size + 1) W1 Z2) := CZ1.out.then hb2
      clear hb2 CZ1
      clear hHeld
      refine hK.out _ _ CZ2.out (fun hHeld => ?_)
      clear hK K
      try simp only [Act.put, List.setIfInBounds_toArray, List.set_cons_zero, List.set_cons_succ]
      refine wpAnyH_ready (rs := [6]) (by kernel_rfl) (by simp) ?_
      obtain ⟨Z3, hst, r6, C6, s6⟩ := store_dig Q0'.out HOL.out LD1.out
      refine step_store_as (o := { dst := none, op := Op.store 23 (Operand.tmp 9) (Operand.tmp 20), type := 0, pos := "verify.go:21", after := #[{ on := 2, ground := Ground.data }, { on := 5, ground := Ground.chain }, { on := 0, ground := Ground.phase }, { on := 1, ground := Ground.phase }, { on := 2, ground := Ground.phase }, { on := 3, ground := Ground.textOnly Departure.lateStores }, { on := 4, ground := Ground.textOnly Departure.lateStores }, { on := 5, ground := Ground.textOnly Departure.lateStoresUnsure }], guard := none }) rfl rfl 23 (.tmp 9) (.tmp 20) rfl _ _ rfl rfl Z3 hst AllReadyH.nil ⟨CZ2.out.trans C6 (fun k hk e => by first | exact e | exact Or.inl e | exact Or.inr e | omega), fun hHeld => ?_⟩
      replace Q0' : Hid (Z3.heap[w.heap.size]? = some (.cells (S.v8 D1) 23 (0, 0))) := r6
      replace Q1' : Hid (Z3.heap[w.heap.size + 1]? = some (.cells (S.v8 rt) 23 (0, 0))) := C6.row Q1'.out (by omega)
      have CZ3 : Hid (Chg (fun k => k = w.heap.size ∨ k = w.heap.size + 1) W1 Z3) := CZ2.out.trans C6 (fun k hk e => by first | exact e | exact Or.inl e | exact Or.inr e | omega)
      clear hst r6 C6 s6 CZ2
      simp only [Act.put]
      refine wpAnyH_ready (rs := [7]) (by kernel_rfl) (by simp) ?_
      obtain ⟨Z4, hst, r6, C6, s6⟩ := store_dig Q1'.out HRT.out LD2.out
      refine step_store_as (o := { dst := none, op := Op.store 23 (Operand.tmp 10) (Operand.tmp 23), type := 0, pos := "verify.go:21", after := #[{ on := 5, ground := Ground.data }, { on := 6, ground := Ground.chain }, { on := 0, ground := Ground.phase }, { on := 1, ground := Ground.phase }, { on := 2, ground := Ground.phase }, { on := 3, ground := Ground.phase }, { on := 4, ground := Ground.phase }, { on := 5, ground := Ground.phase }, { on := 6, ground := Ground.phase }], guard := none }) rfl rfl 23 (.tmp 10) (.tmp 23) rfl _ _ rfl rfl Z4 hst AllReadyH.nil ⟨CZ3.out.trans C6 (fun k hk e => by first | exact e | exact Or.inl e | exact Or.inr e | omega), fun hHeld => ?_⟩
      replace Q0' : Hid (Z4.heap[w.heap.size]? = some (.cells (S.v8 D1) 23 (0, 0))) := C6.row Q0'.out (by omega)
      replace Q1' : Hid (Z4.heap[w.heap.size + 1]? = some (.cells (S.v8 D2) 23 (0, 0))) := r6
      have CZ4 : Hid (Chg (fun k => k = w.heap.size ∨ k = w.heap.size + 1) W1 Z4) := CZ3.out.trans C6 (fun k hk e => by first | exact e | exact Or.inl e | exact Or.inr e | omega)
      clear hst r6 C6 s6 CZ3
      simp only [Act.put]
      refine wpAnyH_done (by kernel_rfl) ?_ _
      refine NoPanic.normal ?_
      clear hHeld
      have BF := hide (BB.out.trans (CZ4.out.below w.heap.size BB.out.size (fun k hk e => by omega)))
      go_wp2_with fail
      go_meet
      case rel => exact ⟨Q0', Q1', BF⟩
    refine step_load (o := { dst := some 22, op := Op.load 23 (Operand.tmp 10), type := 23, pos := "verify.go:21", after := #[], guard := none }) rfl rfl 23 (.tmp 10) rfl (.agg (S.v8 rt)) (load_dig Q1'.out HRT.out) AllReadyH.nil ⟨CZ0.out, fun hHeld => ?_⟩
    simp only [Act.put, List.setIfInBounds_toArray, List.set_cons_zero, List.set_cons_succ]
    refine wpAnyH_ready (rs := [1]) (by kernel_rfl) (by simp) ?_
    refine step_load (o := { dst := some 19, op := Op.load 23 (Operand.tmp 9), type := 23, pos := "verify.go:21", after := #[], guard := none }) rfl rfl 23 (.tmp 9) rfl (.agg (S.v8 old)) (load_dig Q0'.out HOL.out) AllReadyH.nil ⟨CZ0.out, fun hHeld => ?_⟩
    simp only [Act.put, List.setIfInBounds_toArray, List.set_cons_zero, List.set_cons_succ]
    refine wpAnyH_ready (rs := [2]) (by kernel_rfl) (by simp) ?_
    refine AllReadyH.cons (o := { dst := some 20, op := Op.call { callee := Callee.value (Operand.func 36), args := #[Operand.tmp 18, Operand.tmp 19], argTypes := #[3, 23] }, type := 23, pos := "verify.go:21", after := #[{ on := 0, ground := Ground.data }, { on := 1, ground := Ground.data }], guard := none }) rfl (fun K hK => ?_) AllReadyH.nil
    go_simp
    refine (vcut_any a old HOL.out Z0).mono ?_
    rintro e Z1 ⟨rfl, hb2⟩
    rw [← ED1.out]
    replace Q0' : Hid (Z1.heap[w.heap.size]? = some (.cells (S.v8 old) 23 (0, 0))) := (hb2.block _ (block_lt_of_row Q0'.out)).trans Q0'.out
    replace Q1' : Hid (Z1.heap[w.heap.size + 1]? = some (.cells (S.v8 rt) 23 (0, 0))) := (hb2.block _ (block_lt_of_row Q1'.out)).trans Q1'.out
    have CZ1 : Hid (Chg (fun k => k = w.heap.size ∨ k = w.heap.size + 1) W1 Z1) := CZ0.out.then hb2
    clear hb2 CZ0
    clear hHeld
    refine hK.out _ _ CZ1.out (fun hHeld => ?_)
    clear hK K
    try simp only [Act.put, List.setIfInBounds_toArray, List.set_cons_zero, List.set_cons_succ]
    refine wpAnyH_ready (rs := [5]) (by kernel_rfl) (by simp) ?_
    refine AllReadyH.cons (o := { dst := some 23, op := Op.call { callee := Callee.value (Operand.func 36), args := #[Operand.tmp 21, Operand.tmp 22], argTypes := #[3, 23] }, type := 23, pos := "verify.go:21", after := #[{ on := 3, ground := Ground.data }, { on := 4, ground := Ground.data }, { on := 2, ground := Ground.chain }], guard := none }) rfl (fun K hK => ?_) AllReadyH.nil
    go_simp
    refine (vcut_any a rt HRT.out Z1).mono ?_
    rintro e Z2 ⟨rfl, hb2⟩
    rw [← ED2.out]
    replace Q0' : Hid (Z2.heap[w.heap.size]? = some (.cells (S.v8 old) 23 (0, 0))) := (hb2.block _ (block_lt_of_row Q0'.out)).trans Q0'.out
    replace Q1' : Hid (Z2.heap[w.heap.size + 1]? = some (.cells (S.v8 rt) 23 (0, 0))) := (hb2.block _ (block_lt_of_row Q1'.out)).trans Q1'.out
    have CZ2 : Hid (Chg (fun k => k = w.heap.size ∨ k = w.heap.size + 1) W1 Z2) := CZ1.out.then hb2
    clear hb2 CZ1
    clear hHeld
    refine hK.out _ _ CZ2.out (fun hHeld => ?_)
    clear hK K
    try simp only [Act.put, List.setIfInBounds_toArray, List.set_cons_zero, List.set_cons_succ]
    refine wpAnyH_ready (rs := [6]) (by kernel_rfl) (by simp) ?_
    obtain ⟨Z3, hst, r6, C6, s6⟩ := store_dig Q0'.out HOL.out LD1.out
    refine step_store_as (o := { dst := none, op := Op.store 23 (Operand.tmp 9) (Operand.tmp 20), type := 0, pos := "verify.go:21", after := #[{ on := 2, ground := Ground.data }, { on := 5, ground := Ground.chain }, { on := 0, ground := Ground.phase }, { on := 1, ground := Ground.phase }, { on := 2, ground := Ground.phase }, { on := 3, ground := Ground.textOnly Departure.lateStores }, { on := 4, ground := Ground.textOnly Departure.lateStores }, { on := 5, ground := Ground.textOnly Departure.lateStoresUnsure }], guard := none }) rfl rfl 23 (.tmp 9) (.tmp 20) rfl _ _ rfl rfl Z3 hst AllReadyH.nil ⟨CZ2.out.trans C6 (fun k hk e => by first | exact e | exact Or.inl e | exact Or.inr e | omega), fun hHeld => ?_⟩
    replace Q0' : Hid (Z3.heap[w.heap.size]? = some (.cells (S.v8 D1) 23 (0, 0))) := r6
    replace Q1' : Hid (Z3.heap[w.heap.size + 1]? = some (.cells (S.v8 rt) 23 (0, 0))) := C6.row Q1'.out (by omega)
    have CZ3 : Hid (Chg (fun k => k = w.heap.size ∨ k = w.heap.size + 1) W1 Z3) := CZ2.out.trans C6 (fun k hk e => by first | exact e | exact Or.inl e | exact Or.inr e | omega)
    clear hst r6 C6 s6 CZ2
    simp only [Act.put]
    refine wpAnyH_ready (rs := [7]) (by kernel_rfl) (by simp) ?_
    obtain ⟨Z4, hst, r6, C6, s6⟩ := store_dig Q1'.out HRT.out LD2.out
    refine step_store_as (o := { dst := none, op := Op.store 23 (Operand.tmp 10) (Operand.tmp 23), type := 0, pos := "verify.go:21", after := #[{ on := 5, ground := Ground.data }, { on := 6, ground := Ground.chain }, { on := 0, ground := Ground.phase }, { on := 1, ground := Ground.phase }, { on := 2, ground := Ground.phase }, { on := 3, ground := Ground.phase }, { on := 4, ground := Ground.phase }, { on := 5, ground := Ground.phase }, { on := 6, ground := Ground.phase }], guard := none }) rfl rfl 23 (.tmp 10) (.tmp 23) rfl _ _ rfl rfl Z4 hst AllReadyH.nil ⟨CZ3.out.trans C6 (fun k hk e => by first | exact e | exact Or.inl e | exact Or.inr e | omega), fun hHeld => ?_⟩
    replace Q0' : Hid (Z4.heap[w.heap.size]? = some (.cells (S.v8 D1) 23 (0, 0))) := C6.row Q0'.out (by omega)
    replace Q1' : Hid (Z4.heap[w.heap.size + 1]? = some (.cells (S.v8 D2) 23 (0, 0))) := r6
    have CZ4 : Hid (Chg (fun k => k = w.heap.size ∨ k = w.heap.size + 1) W1 Z4) := CZ3.out.trans C6 (fun k hk e => by first | exact e | exact Or.inl e | exact Or.inr e | omega)
    clear hst r6 C6 s6 CZ3
    simp only [Act.put]
    refine wpAnyH_done (by kernel_rfl) ?_ _
    refine NoPanic.normal ?_
    clear hHeld
    have BF := hide (BB.out.trans (CZ4.out.below w.heap.size BB.out.size (fun k hk e => by omega)))
    go_wp2_with fail
    go_meet
    case rel => exact ⟨Q0', Q1', BF⟩
  obtain ⟨RQ0, RQ1, BZA⟩ := hcut
  clear BB Q0 Q1
  by_cases c1 : m = 0
  · have q1 : ((m : Int) == 0) = true := by simp [c1]
    have HR2 := hide (show R = false by rw [HR.out, c1]; exact S.vPre_none _ _ _ _ _)
    clear c1 HR
    go_wp2_with fail
    go_ret
    exact ⟨by rw [HR2.out]; rfl, BZA.out⟩
  have q1 : ((m : Int) == 0) = false := by simp [c1]
  by_cases c2 : n < m
  · have q2 : (m : Int) > (n : Int) := by omega
    have q2' : (n : Int) < (m : Int) := by omega
    have HR2 := hide (show R = false by rw [HR.out]; exact S.vPre_over _ _ _ _ _ _ c2)
    clear HR
    go_wp2_with fail
    go_ret
    exact ⟨by rw [HR2.out]; rfl, BZA.out⟩
  have q2 : ¬ (m : Int) > (n : Int) := by omega
  have q2' : ¬ (n : Int) < (m : Int) := by omega
  by_cases c3 : m = n
  · have q3 : ((m : Int) == (n : Int)) = true := by simp [c3]
    by_cases c4 : N = 0
    · have q4 : ((N : Int) == 0) = true := by simp [c4]
      have hps : ps = [] := List.eq_nil_of_length_eq_zero (by rw [← HN.out, c4])
      have hR2 : R = (D1 == D2) := by
        rw [HR.out, hps, ← c3, S.vPre_same a m c1 old rt, ← ED1.out, ← ED2.out]
        simp [Bool.beq_eq_decide_eq]
      have heq : ∀ w, (Op.equalIn 10000 23 (.agg (S.v8 D1)) (.agg (S.v8 D2))).run Tryd.prog w = .ok R w := fun w => equal_dig D1 D2 LD1.out LD2.out R hR2.symm w
      clear HR hR2 hps c4 c3
      go_wp2_with (first | (with_reducible refine at_op { dst := some 40, op := Op.load 23 (Operand.tmp 9), type := 23, pos := "verify.go:26", after := #[{ on := 3, ground := Ground.guard }], guard := some (3, true) } ?_; refine load_dig_when rfl (.tmp 9) rfl (w.heap.size) rfl D1 RQ0.out LD1.out ?_) | (with_reducible refine at_op { dst := some 41, op := Op.load 23 (Operand.tmp 10), type := 23, pos := "verify.go:26", after := #[{ on := 3, ground := Ground.guard }], guard := some (3, true) } ?_; refine load_dig_when rfl (.tmp 10) rfl (w.heap.size + 1) rfl D2 RQ1.out LD2.out ?_))
      go_ret
      exact ⟨rfl, BZA.out⟩
    · have q4 : ((N : Int) == 0) = false := by simp [c4]
      have HR2 := hide (show R = false by
        rw [HR.out]
        unfold S.vPre
        rw [if_neg (by omega), if_pos c3]
        have : ps ≠ [] := fun e => c4 (by rw [HN.out, e]; rfl)
        simp [this])
      clear HR c3
      go_wp2_with fail
      go_ret
      exact ⟨by rw [HR2.out]; rfl, BZA.out⟩
  have q3 : ((m : Int) == (n : Int)) = false := by simp; omega
  by_cases c4 : N = 0
  · have q4 : ((N : Int) == 0) = true := by simp [c4]
    have hps : ps = [] := List.eq_nil_of_length_eq_zero (by rw [← HN.out, c4])
    have HR2 := hide (show R = false by rw [HR.out, hps]; exact S.vPre_nil _ _ _ (by omega) _ _)
    clear HR hps c4
    go_wp2_with fail
    go_ret
    exact ⟨by rw [HR2.out]; rfl, BZA.out⟩
  have q4 : ((N : Int) == 0) = false := by simp [c4]
  have hne : ps ≠ [] := fun e => c4 (by rw [HN.out, e]; rfl)
  have hld := load_dig RQ0.out LD1.out
  obtain ⟨AL, Y, hal, hst, ry, by1, sy⟩ := lay_dig wc D1 LD1.out
  obtain ⟨gf, hgf⟩ : ∃ g, g = wc.heap.size := ⟨_, rfl⟩
  rw [← hgf] at hal hst ry
  have RY := hide ry
  have GF := hide (show w.heap.size + 1 < gf by rw [hgf]; exact block_lt_of_row RQ1.out)
  have RY0 : Hid (Y.heap[w.heap.size]? = some (.cells (S.v8 D1) 23 (0, 0))) := (by1.block _ (block_lt_of_row RQ0.out)).trans RQ0.out
  have RY1 : Hid (Y.heap[w.heap.size + 1]? = some (.cells (S.v8 D2) 23 (0, 0))) := (by1.block _ (block_lt_of_row RQ1.out)).trans RQ1.out
  have BY := hide (BZA.out.trans (by1.mono BZA.out.size))
  have q5 : IntKind.u64.wrap ((m : Int) - 1) = ((m - 1 : Nat) : Int) := by rw [IntKind.wrap_u64]; omega
  have qb := bits_and_u64_nat m (m - 1) hm (by omega)
  obtain ⟨mm, hmm⟩ : ∃ mm, mm = m &&& (m - 1) := ⟨_, rfl⟩
  rw [← hmm] at qb
  have HMM := hide hmm
  clear ry by1 sy hgf RQ0 RQ1 BZA hmm
  go_upto_region 9 with (first | (with_reducible refine at_op { dst := some 48, op := Op.load 23 (Operand.tmp 9), type := 23, pos := "verify.go:31", after := #[], guard := none } ?_; refine wpList_load_as rfl 23 (.tmp 9) rfl (.pointer (some ⟨w.heap.size, 0, none⟩)) rfl (.agg (S.v8 D1)) hld ?_) | (with_reducible refine at_op { dst := some 13, op := Op.alloc 23, type := 0, pos := "verify.go:31", after := #[], guard := none } ?_; refine wpList_alloc_known rfl 23 rfl (.pointer (some ⟨gf, 0, none⟩)) AL hal ?_) | (with_reducible refine at_op { dst := none, op := Op.store 23 (Operand.tmp 13) (Operand.tmp 48), type := 0, pos := "verify.go:31", after := #[{ on := 2, ground := Ground.data }, { on := 0, ground := Ground.data }, { on := 0, ground := Ground.phase }, { on := 1, ground := Ground.textOnly Departure.lateStores }, { on := 2, ground := Ground.phase }], guard := none } ?_; refine wpList_store_as rfl 23 (.tmp 13) (.tmp 48) rfl (.pointer (some ⟨gf, 0, none⟩)) (.agg (S.v8 D1)) rfl rfl Y hst ?_))
  clear hld hal hst
  by_cases c5 : mm = 0
  · have q6 : ((mm : Int) != 0) = false := by simp [c5]
    have HR3 := hide (HR.out.trans (S.vPre_pow a m n old rt ps c1 (by omega) hne (by rw [← HMM.out, c5])))
    rw [← ED1.out, ← ED2.out] at HR3
    have DGT := hide (HU.out.below BY.out)
    have hlf := load_dig RY.out LD1.out
    clear HR hne HU c5 hcu
    go_wp2_with (with_reducible refine at_op { dst := some 66, op := Op.load 23 (Operand.tmp 13), type := 23, pos := "verify.go:35", after := #[], guard := none } ?_; refine wpList_load_as rfl 23 (.tmp 13) rfl (.pointer (some ⟨gf, 0, none⟩)) rfl (.agg (S.v8 D1)) hlf ?_)
    clear hlf
    refine (grow_any a _ m n D1 LD1.out ps Y (by omega) (by omega) hn DGT.out (HK.out.below BY.out h0)).mono ?_
    rintro e w2 ⟨x, y, ok, rfl, hx, hy, hO, hb2⟩
    have hR4 := HR3.out
    rw [S.told_dd ok x y D1 D2 _ hO] at hR4
    have LX := hide hx
    have LY := hide hy
    have R0 : Hid (w2.heap[w.heap.size]? = some (.cells (S.v8 D1) 23 (0, 0))) := (hb2.block _ (block_lt_of_row RY0.out)).trans RY0.out
    have R1 : Hid (w2.heap[w.heap.size + 1]? = some (.cells (S.v8 D2) 23 (0, 0))) := (hb2.block _ (block_lt_of_row RY1.out)).trans RY1.out
    have B2 := hide (BY.out.trans (hb2.mono BY.out.size))
    obtain ⟨A1, A2, Z1, Z2, l1, l2, l3, l4, l5, l6, l7⟩ := lay_dig2 w2 x y LX.out LY.out
    obtain ⟨gx, hgx⟩ : ∃ g, g = w2.heap.size := ⟨_, rfl⟩
    rw [← hgx] at l1 l2 l3 l4 l5 l6
    have RX := hide l5
    have RYY := hide l6
    have R0b : Hid (Z2.heap[w.heap.size]? = some (.cells (S.v8 D1) 23 (0, 0))) := (l7.block _ (block_lt_of_row R0.out)).trans R0.out
    have R1b : Hid (Z2.heap[w.heap.size + 1]? = some (.cells (S.v8 D2) 23 (0, 0))) := (l7.block _ (block_lt_of_row R1.out)).trans R1.out
    have B3 := hide (B2.out.trans (l7.mono B2.out.size))
    obtain ⟨e1, he1⟩ : ∃ e : Bool, e = (x == D1) := ⟨_, rfl⟩
    obtain ⟨e2, he2⟩ : ∃ e : Bool, e = (y == D2) := ⟨_, rfl⟩
    rw [← he1, ← he2] at hR4
    have heq1 : ∀ w, (Op.equalIn 10000 23 (.agg (S.v8 x)) (.agg (S.v8 D1))).run Tryd.prog w = .ok e1 w := fun w => equal_dig x D1 LX.out LD1.out e1 he1.symm w
    have heq2 : ∀ w, (Op.equalIn 10000 23 (.agg (S.v8 y)) (.agg (S.v8 D2))).run Tryd.prog w = .ok e2 w := fun w => equal_dig y D2 LY.out LD2.out e2 he2.symm w
    have HR5 := hide hR4
    clear hx hy hO hb2 hR4 HR3 l5 l6 l7 hgx R0 R1 he1 he2 B2
    go_upto_region 12 with (first | (with_reducible refine at_op { dst := some 15, op := Op.alloc 23, type := 0, pos := "verify.go:35", after := #[], guard := none } ?_; refine wpList_alloc_known rfl 23 rfl (.pointer (some ⟨gx, 0, none⟩)) A1 l1 ?_) | (with_reducible refine at_op { dst := some 16, op := Op.alloc 23, type := 0, pos := "verify.go:35", after := #[], guard := none } ?_; refine wpList_alloc_known rfl 23 rfl (.pointer (some ⟨gx + 1, 0, none⟩)) A2 l2 ?_) | (with_reducible refine at_op { dst := none, op := Op.store 23 (Operand.tmp 15) (Operand.tmp 69), type := 0, pos := "verify.go:35", after := #[{ on := 10, ground := Ground.data }, { on := 7, ground := Ground.data }, { on := 5, ground := Ground.chain }, { on := 0, ground := Ground.phase }, { on := 1, ground := Ground.phase }, { on := 2, ground := Ground.phase }, { on := 3, ground := Ground.phase }, { on := 4, ground := Ground.phase }, { on := 5, ground := Ground.phase }, { on := 6, ground := Ground.phase }, { on := 7, ground := Ground.phase }, { on := 8, ground := Ground.textOnly Departure.lateStores }, { on := 9, ground := Ground.textOnly Departure.lateStores }, { on := 10, ground := Ground.phase }, { on := 11, ground := Ground.phase }], guard := none } ?_; refine wpList_store_as rfl 23 (.tmp 15) (.tmp 69) rfl (.pointer (some ⟨gx, 0, none⟩)) (.agg (S.v8 x)) rfl rfl Z1 l3 ?_) | (with_reducible refine at_op { dst := none, op := Op.store 23 (Operand.tmp 16) (Operand.tmp 70), type := 0, pos := "verify.go:35", after := #[{ on := 11, ground := Ground.data }, { on := 8, ground := Ground.data }, { on := 12, ground := Ground.chain }, { on := 0, ground := Ground.phase }, { on := 1, ground := Ground.phase }, { on := 2, ground := Ground.phase }, { on := 3, ground := Ground.phase }, { on := 4, ground := Ground.phase }, { on := 5, ground := Ground.phase }, { on := 6, ground := Ground.phase }, { on := 7, ground := Ground.phase }, { on := 8, ground := Ground.phase }, { on := 9, ground := Ground.textOnly Departure.lateStores }, { on := 10, ground := Ground.phase }, { on := 11, ground := Ground.phase }, { on := 12, ground := Ground.phase }], guard := none } ?_; refine wpList_store_as rfl 23 (.tmp 16) (.tmp 70) rfl (.pointer (some ⟨gx + 1, 0, none⟩)) (.agg (S.v8 y)) rfl rfl Z2 l4 ?_))
    clear l1 l2 l3 l4
    cases ok with
    | false =>
      go_wp2_with fail
      go_ret
      exact ⟨by rw [HR5.out]; rfl, B3.out⟩
    | true =>
      cases e1 with
      | false =>
        go_wp2_with (first | (with_reducible refine at_op { dst := some 74, op := Op.load 23 (Operand.tmp 15), type := 23, pos := "verify.go:36", after := #[{ on := 1, ground := Ground.guard }], guard := some (1, true) } ?_; refine load_dig_when rfl (.tmp 15) rfl gx rfl x RX.out LX.out ?_) | (with_reducible refine at_op { dst := some 75, op := Op.load 23 (Operand.tmp 9), type := 23, pos := "verify.go:36", after := #[{ on := 1, ground := Ground.guard }], guard := some (1, true) } ?_; refine load_dig_when rfl (.tmp 9) rfl (w.heap.size) rfl D1 R0b.out LD1.out ?_))
        go_ret
        exact ⟨by rw [HR5.out]; rfl, B3.out⟩
      | true =>
        go_wp2_with (first | (with_reducible refine at_op { dst := some 74, op := Op.load 23 (Operand.tmp 15), type := 23, pos := "verify.go:36", after := #[{ on := 1, ground := Ground.guard }], guard := some (1, true) } ?_; refine load_dig_when rfl (.tmp 15) rfl gx rfl x RX.out LX.out ?_) | (with_reducible refine at_op { dst := some 75, op := Op.load 23 (Operand.tmp 9), type := 23, pos := "verify.go:36", after := #[{ on := 1, ground := Ground.guard }], guard := some (1, true) } ?_; refine load_dig_when rfl (.tmp 9) rfl (w.heap.size) rfl D1 R0b.out LD1.out ?_) | (with_reducible refine at_op { dst := some 79, op := Op.load 23 (Operand.tmp 16), type := 23, pos := "verify.go:36", after := #[{ on := 6, ground := Ground.guard }], guard := some (6, true) } ?_; refine load_dig_when rfl (.tmp 16) rfl (gx + 1) rfl y RYY.out LY.out ?_) | (with_reducible refine at_op { dst := some 80, op := Op.load 23 (Operand.tmp 10), type := 23, pos := "verify.go:36", after := #[{ on := 6, ground := Ground.guard }], guard := some (6, true) } ?_; refine load_dig_when rfl (.tmp 10) rfl (w.heap.size + 1) rfl D2 R1b.out LD2.out ?_))
        go_ret
        exact ⟨by rw [HR5.out]; rfl, B3.out⟩
  · have q6 : ((mm : Int) != 0) = true := by simp [c5]
    obtain ⟨p, ps', hps⟩ : ∃ p ps', ps = p :: ps' := by
      cases ps with
      | nil => exact absurd rfl hne
      | cons p ps' => exact ⟨p, ps', rfl⟩
    have hR3 := HR.out
    rw [hps, S.vPre_not a m n old rt p ps' c1 (by omega) (by rw [← HMM.out]; exact c5)] at hR3
    rw [← ED1.out, ← ED2.out] at hR3
    obtain ⟨gu, ou, cu, eu, hgu, hru, hpl⟩ := dg_at HU.out 0 (by rw [← HN.out]; omega)
    simp only [Value.slice.injEq] at eu
    obtain ⟨rfl, eN, rfl⟩ := eu
    clear eN
    rw [show ps.getD 0 [] = p by rw [hps]; rfl] at hru hpl
    rw [Nat.zero_mul, Nat.add_zero] at hru
    have LP := hide hpl
    obtain ⟨F, hF⟩ : ∃ F, F = S.cut p (S.cw a) := ⟨_, rfl⟩
    have LF := hide (show F.length = 32 by rw [hF, S.cut_length]; exact hpl)
    rw [← hF] at hR3
    have EF := hide hF
    have HR3 := hide hR3
    have hN1 : 1 ≤ N := by omega
    have hcap := hcu _ _ _ rfl
    have HTL := hide HU.out
    have HPS := hide hps
    have HRU : Hid (∀ W, Below w.heap.size w W → W.rangeAt gu ou (S.v8l p)) := fun W hW j x hx => (hW.cell (p := ⟨gu, ou + j, none⟩) hgu).trans (hru j x hx)
    have hsz := size_dig p LP.out
    have q7 : (1 : Int) ≤ (N : Int) := by omega
    have q8 : (N : Int) ≤ (uc : Int) := by omega
    have q9 : (1 : Int) ≤ (uc : Int) := by omega
    have q10 : (0 : Int) < (N : Int) := by omega
    have q12 : 0 < N := by omega
    clear HR hne HU hps hR3 hru hgu hpl hF hcu
    go_upto_region 10 with fail
    by_cases c6 : uc = 1
    · have e6 : N = 1 := by omega
      subst c6
      subst e6
      have DGT0 : Hid (∀ W, Below w.heap.size w W → DgAt W (.slice (some ⟨gu, ou, none⟩) 0 0) ps') := fun W hW => by
        have := (HTL.out.below hW)
        rw [HPS.out] at this
        exact this.tail _ _ (fun h => absurd h (by omega))
      refine wp_region_noPanic ?_
      refine wp_region_held_drew (S := (fun W => Chg (fun k => k = gf) Y W)) follows ((Chg.refl _ _).drew) (fun hHeld => ?_)
      clear hHeld
      have hHeld : Chg (fun k => k = gf) Y Y.drew := (Chg.refl _ _).drew
      have CZ0 := hide hHeld
      have RY' : Hid (Y.drew.heap[gf]? = some (.cells (S.v8 D1) 23 (0, 0))) := RY.out
      have RY0' : Hid (Y.drew.heap[w.heap.size]? = some (.cells (S.v8 D1) 23 (0, 0))) := RY0.out
      have RY1' : Hid (Y.drew.heap[w.heap.size + 1]? = some (.cells (S.v8 D2) 23 (0, 0))) := RY1.out
      generalize Y.drew = Z0 at CZ0 hHeld RY' RY0' RY1' ⊢
      refine wpAnyH_take (i := 0) (oi := { dst := some 55, op := Op.move (Operand.tmp 0), type := 3, pos := "verify.go:33", after := #[], guard := none }) (v := ?_) rfl (by kernel_rfl) (by kernel_rfl) (by kernel_rfl) (fun _ _ _ h => h) (Or.inl ⟨by rfl, ?_⟩) (by assumption) ?_
      rotate_left
      · intro w hSw
        clear hSw
        go_simp
        all_goals with_reducible rfl
      simp only [Act.put, List.setIfInBounds_toArray, List.set_cons_zero, List.set_cons_succ]
      refine wpAnyH_take (i := 1) (oi := { dst := some 56, op := Op.move (Operand.tmp 5), type := 32, pos := "verify.go:33", after := #[], guard := none }) (v := ?_) rfl (by kernel_rfl) (by kernel_rfl) (by kernel_rfl) (fun _ _ _ h => h) (Or.inl ⟨by rfl, ?_⟩) (by assumption) ?_
      rotate_left
      · intro w hSw
        clear hSw
        go_simp
        all_goals with_reducible rfl
      simp only [Act.put, List.setIfInBounds_toArray, List.set_cons_zero, List.set_cons_succ]
      refine wpAnyH_take (i := 2) (oi := { dst := some 57, op := Op.indexAddr 32 (Operand.tmp 56) (Operand.const (Value.int IntKind.i64 0)), type := 0, pos := "verify.go:33", after := #[{ on := 1, ground := Ground.data }], guard := none }) (v := ?_) rfl (by kernel_rfl) (by kernel_rfl) (by kernel_rfl) (fun _ _ _ h => h) (Or.inl ⟨by rfl, ?_⟩) (by assumption) ?_
      rotate_left
      · intro w hSw
        clear hSw
        go_simp
        all_goals with_reducible rfl
      simp only [Act.put, List.setIfInBounds_toArray, List.set_cons_zero, List.set_cons_succ]
      refine wpAnyH_take (i := 3) (oi := { dst := some 58, op := Op.load 23 (Operand.tmp 57), type := 23, pos := "verify.go:33", after := #[{ on := 2, ground := Ground.data }], guard := none }) (v := .agg (S.v8l p).toArray) rfl (by kernel_rfl) (by kernel_rfl) (by kernel_rfl) (fun _ _ _ h => h) (yieldsIf_load_mid (by rfl) _ _ rfl gu ou rfl (S.v8l p) _ (fun _ hSw => HRU.out _ (BY.out.trans (hSw.below w.heap.size BY.out.size (fun k hk e => by have := GF.out; omega)))) Tryd.underlying23 rfl hsz) (by assumption) ?_
      simp only [Act.put, List.setIfInBounds_toArray, List.set_cons_zero, List.set_cons_succ]
      refine wpAnyH_take (i := 5) (oi := { dst := some 60, op := Op.move (Operand.tmp 5), type := 32, pos := "verify.go:33", after := #[], guard := none }) (v := ?_) rfl (by kernel_rfl) (by kernel_rfl) (by kernel_rfl) (fun _ _ _ h => h) (Or.inl ⟨by rfl, ?_⟩) (by assumption) ?_
      rotate_left
      · intro w hSw
        clear hSw
        go_simp
        all_goals with_reducible rfl
      simp only [Act.put, List.setIfInBounds_toArray, List.set_cons_zero, List.set_cons_succ]
      refine wpAnyH_take (i := 6) (oi := { dst := some 61, op := Op.slice 32 (Operand.tmp 60) (some (Operand.const (Value.int IntKind.i64 1))) none none, type := 32, pos := "verify.go:33", after := #[{ on := 5, ground := Ground.data }], guard := none }) (v := ?_) rfl (by kernel_rfl) (by kernel_rfl) (by kernel_rfl) (fun _ _ _ h => h) (Or.inl ⟨by rfl, ?_⟩) (by assumption) ?_
      rotate_left
      · intro w hSw
        clear hSw
        go_simp
        all_goals with_reducible rfl
      simp only [Act.put, List.setIfInBounds_toArray, List.set_cons_zero, List.set_cons_succ]
      refine wpAnyH_ready (rs := [4]) (by kernel_rfl) (by simp) ?_
      refine AllReadyH.cons (o := { dst := some 59, op := Op.call { callee := Callee.value (Operand.func 36), args := #[Operand.tmp 55, Operand.tmp 58], argTypes := #[3, 23] }, type := 23, pos := "verify.go:33", after := #[{ on := 0, ground := Ground.data }, { on := 3, ground := Ground.data }], guard := none }) rfl (fun K hK => ?_) AllReadyH.nil
      go_simp
      refine (vcut_any a p LP.out Z0).mono ?_
      rintro e Z1 ⟨rfl, hb2⟩
      rw [← EF.out]
      replace RY' : Hid (Z1.heap[gf]? = some (.cells (S.v8 D1) 23 (0, 0))) := (hb2.block _ (block_lt_of_row RY'.out)).trans RY'.out
      replace RY0' : Hid (Z1.heap[w.heap.size]? = some (.cells (S.v8 D1) 23 (0, 0))) := (hb2.block _ (block_lt_of_row RY0'.out)).trans RY0'.out
      replace RY1' : Hid (Z1.heap[w.heap.size + 1]? = some (.cells (S.v8 D2) 23 (0, 0))) := (hb2.block _ (block_lt_of_row RY1'.out)).trans RY1'.out
      have CZ1 : Hid (Chg (fun k => k = gf) Y Z1) := CZ0.out.then hb2
      clear hb2 CZ0
      clear hHeld
      refine hK.out _ _ CZ1.out (fun hHeld => ?_)
      clear hK K
      try simp only [Act.put, List.setIfInBounds_toArray, List.set_cons_zero, List.set_cons_succ]
      refine wpAnyH_ready (rs := [7]) (by kernel_rfl) (by simp) ?_
      obtain ⟨Z2, hst, r6, C6, s6⟩ := store_dig RY'.out LD1.out LF.out
      refine step_store_as (o := { dst := none, op := Op.store 23 (Operand.tmp 13) (Operand.tmp 59), type := 0, pos := "verify.go:33", after := #[{ on := 4, ground := Ground.data }, { on := 4, ground := Ground.chain }, { on := 0, ground := Ground.phase }, { on := 1, ground := Ground.phase }, { on := 2, ground := Ground.phase }, { on := 3, ground := Ground.phase }, { on := 4, ground := Ground.phase }, { on := 5, ground := Ground.textOnly Departure.lateStores }, { on := 6, ground := Ground.textOnly Departure.lateStoresUnsure }], guard := none }) rfl rfl 23 (.tmp 13) (.tmp 59) rfl _ _ rfl rfl Z2 hst AllReadyH.nil ⟨CZ1.out.trans C6 (fun k hk e => by first | exact e | exact Or.inl e | exact Or.inr e | omega), fun hHeld => ?_⟩
      replace RY' : Hid (Z2.heap[gf]? = some (.cells (S.v8 F) 23 (0, 0))) := r6
      replace RY0' : Hid (Z2.heap[w.heap.size]? = some (.cells (S.v8 D1) 23 (0, 0))) := C6.row RY0'.out (by have := GF.out; omega)
      replace RY1' : Hid (Z2.heap[w.heap.size + 1]? = some (.cells (S.v8 D2) 23 (0, 0))) := C6.row RY1'.out (by have := GF.out; omega)
      have CZ2 : Hid (Chg (fun k => k = gf) Y Z2) := CZ1.out.trans C6 (fun k hk e => by first | exact e | exact Or.inl e | exact Or.inr e | omega)
      clear hst r6 C6 s6 CZ1
      simp only [Act.put]
      refine wpAnyH_take (i := 8) (oi := { dst := some 14, op := Op.assign (Operand.tmp 61), type := 32, pos := "verify.go:33", after := #[{ on := 6, ground := Ground.data }, { on := 7, ground := Ground.chain }, { on := 0, ground := Ground.phase }, { on := 1, ground := Ground.phase }, { on := 2, ground := Ground.phase }, { on := 3, ground := Ground.phase }, { on := 4, ground := Ground.phase }, { on := 5, ground := Ground.phase }, { on := 6, ground := Ground.phase }, { on := 7, ground := Ground.phase }], guard := none }) (v := ?_) rfl (by kernel_rfl) (by kernel_rfl) (by kernel_rfl) (fun _ _ _ h => h) (Or.inl ⟨by rfl, ?_⟩) (by assumption) ?_
      rotate_left
      · intro w hSw
        clear hSw
        go_simp
        all_goals with_reducible rfl
      simp only [Act.put, List.setIfInBounds_toArray, List.set_cons_zero, List.set_cons_succ]
      refine wpAnyH_done (by kernel_rfl) ?_ _
      refine NoPanic.normal ?_
      clear hHeld
      obtain ⟨YF, hYF⟩ : ∃ Z, Z = Z2 := ⟨_, rfl⟩
      rw [← hYF] at CZ2 RY' RY0' RY1' ⊢
      clear hYF
      have BYF := hide (BY.out.trans (CZ2.out.below w.heap.size BY.out.size (fun k hk e => by have := GF.out; omega)))
      have DGT := hide (DGT0.out YF BYF.out)
      have hlf := load_dig RY'.out LF.out
      clear CZ2 DGT0 HRU HTL hsz
      go_wp2_with (with_reducible refine at_op { dst := some 66, op := Op.load 23 (Operand.tmp 13), type := 23, pos := "verify.go:35", after := #[], guard := none } ?_; refine wpList_load_as rfl 23 (.tmp 13) rfl (.pointer (some ⟨gf, 0, none⟩)) rfl (.agg (S.v8 F)) hlf ?_)
      clear hlf
      refine (grow_any a _ m n F LF.out ps' YF (by omega) (by omega) hn DGT.out (HK.out.below BYF.out h0)).mono ?_
      rintro e w2 ⟨x, y, ok, rfl, hx, hy, hO, hb2⟩
      have hR4 := HR3.out
      rw [S.told_dd ok x y D1 D2 _ hO] at hR4
      have LX := hide hx
      have LY := hide hy
      have R0 : Hid (w2.heap[w.heap.size]? = some (.cells (S.v8 D1) 23 (0, 0))) := (hb2.block _ (block_lt_of_row RY0'.out)).trans RY0'.out
      have R1 : Hid (w2.heap[w.heap.size + 1]? = some (.cells (S.v8 D2) 23 (0, 0))) := (hb2.block _ (block_lt_of_row RY1'.out)).trans RY1'.out
      have B2 := hide (BYF.out.trans (hb2.mono BYF.out.size))
      obtain ⟨A1, A2, Z1, Z2, l1, l2, l3, l4, l5, l6, l7⟩ := lay_dig2 w2 x y LX.out LY.out
      obtain ⟨gx, hgx⟩ : ∃ g, g = w2.heap.size := ⟨_, rfl⟩
      rw [← hgx] at l1 l2 l3 l4 l5 l6
      have RX := hide l5
      have RYY := hide l6
      have R0b : Hid (Z2.heap[w.heap.size]? = some (.cells (S.v8 D1) 23 (0, 0))) := (l7.block _ (block_lt_of_row R0.out)).trans R0.out
      have R1b : Hid (Z2.heap[w.heap.size + 1]? = some (.cells (S.v8 D2) 23 (0, 0))) := (l7.block _ (block_lt_of_row R1.out)).trans R1.out
      have B3 := hide (B2.out.trans (l7.mono B2.out.size))
      obtain ⟨e1, he1⟩ : ∃ e : Bool, e = (x == D1) := ⟨_, rfl⟩
      obtain ⟨e2, he2⟩ : ∃ e : Bool, e = (y == D2) := ⟨_, rfl⟩
      rw [← he1, ← he2] at hR4
      have heq1 : ∀ w, (Op.equalIn 10000 23 (.agg (S.v8 x)) (.agg (S.v8 D1))).run Tryd.prog w = .ok e1 w := fun w => equal_dig x D1 LX.out LD1.out e1 he1.symm w
      have heq2 : ∀ w, (Op.equalIn 10000 23 (.agg (S.v8 y)) (.agg (S.v8 D2))).run Tryd.prog w = .ok e2 w := fun w => equal_dig y D2 LY.out LD2.out e2 he2.symm w
      have HR5 := hide hR4
      clear hx hy hO hb2 hR4 HR3 l5 l6 l7 hgx R0 R1 he1 he2 B2
      go_upto_region 12 with (first | (with_reducible refine at_op { dst := some 15, op := Op.alloc 23, type := 0, pos := "verify.go:35", after := #[], guard := none } ?_; refine wpList_alloc_known rfl 23 rfl (.pointer (some ⟨gx, 0, none⟩)) A1 l1 ?_) | (with_reducible refine at_op { dst := some 16, op := Op.alloc 23, type := 0, pos := "verify.go:35", after := #[], guard := none } ?_; refine wpList_alloc_known rfl 23 rfl (.pointer (some ⟨gx + 1, 0, none⟩)) A2 l2 ?_) | (with_reducible refine at_op { dst := none, op := Op.store 23 (Operand.tmp 15) (Operand.tmp 69), type := 0, pos := "verify.go:35", after := #[{ on := 10, ground := Ground.data }, { on := 7, ground := Ground.data }, { on := 5, ground := Ground.chain }, { on := 0, ground := Ground.phase }, { on := 1, ground := Ground.phase }, { on := 2, ground := Ground.phase }, { on := 3, ground := Ground.phase }, { on := 4, ground := Ground.phase }, { on := 5, ground := Ground.phase }, { on := 6, ground := Ground.phase }, { on := 7, ground := Ground.phase }, { on := 8, ground := Ground.textOnly Departure.lateStores }, { on := 9, ground := Ground.textOnly Departure.lateStores }, { on := 10, ground := Ground.phase }, { on := 11, ground := Ground.phase }], guard := none } ?_; refine wpList_store_as rfl 23 (.tmp 15) (.tmp 69) rfl (.pointer (some ⟨gx, 0, none⟩)) (.agg (S.v8 x)) rfl rfl Z1 l3 ?_) | (with_reducible refine at_op { dst := none, op := Op.store 23 (Operand.tmp 16) (Operand.tmp 70), type := 0, pos := "verify.go:35", after := #[{ on := 11, ground := Ground.data }, { on := 8, ground := Ground.data }, { on := 12, ground := Ground.chain }, { on := 0, ground := Ground.phase }, { on := 1, ground := Ground.phase }, { on := 2, ground := Ground.phase }, { on := 3, ground := Ground.phase }, { on := 4, ground := Ground.phase }, { on := 5, ground := Ground.phase }, { on := 6, ground := Ground.phase }, { on := 7, ground := Ground.phase }, { on := 8, ground := Ground.phase }, { on := 9, ground := Ground.textOnly Departure.lateStores }, { on := 10, ground := Ground.phase }, { on := 11, ground := Ground.phase }, { on := 12, ground := Ground.phase }], guard := none } ?_; refine wpList_store_as rfl 23 (.tmp 16) (.tmp 70) rfl (.pointer (some ⟨gx + 1, 0, none⟩)) (.agg (S.v8 y)) rfl rfl Z2 l4 ?_))
      clear l1 l2 l3 l4
      cases ok with
      | false =>
        go_wp2_with fail
        go_ret
        exact ⟨by rw [HR5.out]; rfl, B3.out⟩
      | true =>
        cases e1 with
        | false =>
          go_wp2_with (first | (with_reducible refine at_op { dst := some 74, op := Op.load 23 (Operand.tmp 15), type := 23, pos := "verify.go:36", after := #[{ on := 1, ground := Ground.guard }], guard := some (1, true) } ?_; refine load_dig_when rfl (.tmp 15) rfl gx rfl x RX.out LX.out ?_) | (with_reducible refine at_op { dst := some 75, op := Op.load 23 (Operand.tmp 9), type := 23, pos := "verify.go:36", after := #[{ on := 1, ground := Ground.guard }], guard := some (1, true) } ?_; refine load_dig_when rfl (.tmp 9) rfl (w.heap.size) rfl D1 R0b.out LD1.out ?_))
          go_ret
          exact ⟨by rw [HR5.out]; rfl, B3.out⟩
        | true =>
          go_wp2_with (first | (with_reducible refine at_op { dst := some 74, op := Op.load 23 (Operand.tmp 15), type := 23, pos := "verify.go:36", after := #[{ on := 1, ground := Ground.guard }], guard := some (1, true) } ?_; refine load_dig_when rfl (.tmp 15) rfl gx rfl x RX.out LX.out ?_) | (with_reducible refine at_op { dst := some 75, op := Op.load 23 (Operand.tmp 9), type := 23, pos := "verify.go:36", after := #[{ on := 1, ground := Ground.guard }], guard := some (1, true) } ?_; refine load_dig_when rfl (.tmp 9) rfl (w.heap.size) rfl D1 R0b.out LD1.out ?_) | (with_reducible refine at_op { dst := some 79, op := Op.load 23 (Operand.tmp 16), type := 23, pos := "verify.go:36", after := #[{ on := 6, ground := Ground.guard }], guard := some (6, true) } ?_; refine load_dig_when rfl (.tmp 16) rfl (gx + 1) rfl y RYY.out LY.out ?_) | (with_reducible refine at_op { dst := some 80, op := Op.load 23 (Operand.tmp 10), type := 23, pos := "verify.go:36", after := #[{ on := 6, ground := Ground.guard }], guard := some (6, true) } ?_; refine load_dig_when rfl (.tmp 10) rfl (w.heap.size + 1) rfl D2 R1b.out LD2.out ?_))
          go_ret
          exact ⟨by rw [HR5.out]; rfl, B3.out⟩
    · have q11 : ¬ uc = 1 := c6
      have DGT0 : Hid (∀ W, Below w.heap.size w W → DgAt W (.slice (some ⟨gu, ou + 32, none⟩) (N - 1) (uc - 1)) ps') := fun W hW => by
        have := (HTL.out.below hW)
        rw [HPS.out] at this
        exact this.tail _ _ (fun _ => rfl)
      refine wp_region_noPanic ?_
      refine wp_region_held_drew (S := (fun W => Chg (fun k => k = gf) Y W)) follows ((Chg.refl _ _).drew) (fun hHeld => ?_)
      clear hHeld
      have hHeld : Chg (fun k => k = gf) Y Y.drew := (Chg.refl _ _).drew
      have CZ0 := hide hHeld
      have RY' : Hid (Y.drew.heap[gf]? = some (.cells (S.v8 D1) 23 (0, 0))) := RY.out
      have RY0' : Hid (Y.drew.heap[w.heap.size]? = some (.cells (S.v8 D1) 23 (0, 0))) := RY0.out
      have RY1' : Hid (Y.drew.heap[w.heap.size + 1]? = some (.cells (S.v8 D2) 23 (0, 0))) := RY1.out
      generalize Y.drew = Z0 at CZ0 hHeld RY' RY0' RY1' ⊢
      refine wpAnyH_take (i := 0) (oi := { dst := some 55, op := Op.move (Operand.tmp 0), type := 3, pos := "verify.go:33", after := #[], guard := none }) (v := ?_) rfl (by kernel_rfl) (by kernel_rfl) (by kernel_rfl) (fun _ _ _ h => h) (Or.inl ⟨by rfl, ?_⟩) (by assumption) ?_
      rotate_left
      · intro w hSw
        clear hSw
        go_simp
        all_goals with_reducible rfl
      simp only [Act.put, List.setIfInBounds_toArray, List.set_cons_zero, List.set_cons_succ]
      refine wpAnyH_take (i := 1) (oi := { dst := some 56, op := Op.move (Operand.tmp 5), type := 32, pos := "verify.go:33", after := #[], guard := none }) (v := ?_) rfl (by kernel_rfl) (by kernel_rfl) (by kernel_rfl) (fun _ _ _ h => h) (Or.inl ⟨by rfl, ?_⟩) (by assumption) ?_
      rotate_left
      · intro w hSw
        clear hSw
        go_simp
        all_goals with_reducible rfl
      simp only [Act.put, List.setIfInBounds_toArray, List.set_cons_zero, List.set_cons_succ]
      refine wpAnyH_take (i := 2) (oi := { dst := some 57, op := Op.indexAddr 32 (Operand.tmp 56) (Operand.const (Value.int IntKind.i64 0)), type := 0, pos := "verify.go:33", after := #[{ on := 1, ground := Ground.data }], guard := none }) (v := ?_) rfl (by kernel_rfl) (by kernel_rfl) (by kernel_rfl) (fun _ _ _ h => h) (Or.inl ⟨by rfl, ?_⟩) (by assumption) ?_
      rotate_left
      · intro w hSw
        clear hSw
        go_simp
        all_goals with_reducible rfl
      simp only [Act.put, List.setIfInBounds_toArray, List.set_cons_zero, List.set_cons_succ]
      refine wpAnyH_take (i := 3) (oi := { dst := some 58, op := Op.load 23 (Operand.tmp 57), type := 23, pos := "verify.go:33", after := #[{ on := 2, ground := Ground.data }], guard := none }) (v := .agg (S.v8l p).toArray) rfl (by kernel_rfl) (by kernel_rfl) (by kernel_rfl) (fun _ _ _ h => h) (yieldsIf_load_mid (by rfl) _ _ rfl gu ou rfl (S.v8l p) _ (fun _ hSw => HRU.out _ (BY.out.trans (hSw.below w.heap.size BY.out.size (fun k hk e => by have := GF.out; omega)))) Tryd.underlying23 rfl hsz) (by assumption) ?_
      simp only [Act.put, List.setIfInBounds_toArray, List.set_cons_zero, List.set_cons_succ]
      refine wpAnyH_take (i := 5) (oi := { dst := some 60, op := Op.move (Operand.tmp 5), type := 32, pos := "verify.go:33", after := #[], guard := none }) (v := ?_) rfl (by kernel_rfl) (by kernel_rfl) (by kernel_rfl) (fun _ _ _ h => h) (Or.inl ⟨by rfl, ?_⟩) (by assumption) ?_
      rotate_left
      · intro w hSw
        clear hSw
        go_simp
        all_goals with_reducible rfl
      simp only [Act.put, List.setIfInBounds_toArray, List.set_cons_zero, List.set_cons_succ]
      refine wpAnyH_take (i := 6) (oi := { dst := some 61, op := Op.slice 32 (Operand.tmp 60) (some (Operand.const (Value.int IntKind.i64 1))) none none, type := 32, pos := "verify.go:33", after := #[{ on := 5, ground := Ground.data }], guard := none }) (v := ?_) rfl (by kernel_rfl) (by kernel_rfl) (by kernel_rfl) (fun _ _ _ h => h) (Or.inl ⟨by rfl, ?_⟩) (by assumption) ?_
      rotate_left
      · intro w hSw
        clear hSw
        go_simp
        all_goals with_reducible rfl
      simp only [Act.put, List.setIfInBounds_toArray, List.set_cons_zero, List.set_cons_succ]
      refine wpAnyH_ready (rs := [4]) (by kernel_rfl) (by simp) ?_
      refine AllReadyH.cons (o := { dst := some 59, op := Op.call { callee := Callee.value (Operand.func 36), args := #[Operand.tmp 55, Operand.tmp 58], argTypes := #[3, 23] }, type := 23, pos := "verify.go:33", after := #[{ on := 0, ground := Ground.data }, { on := 3, ground := Ground.data }], guard := none }) rfl (fun K hK => ?_) AllReadyH.nil
      go_simp
      refine (vcut_any a p LP.out Z0).mono ?_
      rintro e Z1 ⟨rfl, hb2⟩
      rw [← EF.out]
      replace RY' : Hid (Z1.heap[gf]? = some (.cells (S.v8 D1) 23 (0, 0))) := (hb2.block _ (block_lt_of_row RY'.out)).trans RY'.out
      replace RY0' : Hid (Z1.heap[w.heap.size]? = some (.cells (S.v8 D1) 23 (0, 0))) := (hb2.block _ (block_lt_of_row RY0'.out)).trans RY0'.out
      replace RY1' : Hid (Z1.heap[w.heap.size + 1]? = some (.cells (S.v8 D2) 23 (0, 0))) := (hb2.block _ (block_lt_of_row RY1'.out)).trans RY1'.out
      have CZ1 : Hid (Chg (fun k => k = gf) Y Z1) := CZ0.out.then hb2
      clear hb2 CZ0
      clear hHeld
      refine hK.out _ _ CZ1.out (fun hHeld => ?_)
      clear hK K
      try simp only [Act.put, List.setIfInBounds_toArray, List.set_cons_zero, List.set_cons_succ]
      refine wpAnyH_ready (rs := [7]) (by kernel_rfl) (by simp) ?_
      obtain ⟨Z2, hst, r6, C6, s6⟩ := store_dig RY'.out LD1.out LF.out
      refine step_store_as (o := { dst := none, op := Op.store 23 (Operand.tmp 13) (Operand.tmp 59), type := 0, pos := "verify.go:33", after := #[{ on := 4, ground := Ground.data }, { on := 4, ground := Ground.chain }, { on := 0, ground := Ground.phase }, { on := 1, ground := Ground.phase }, { on := 2, ground := Ground.phase }, { on := 3, ground := Ground.phase }, { on := 4, ground := Ground.phase }, { on := 5, ground := Ground.textOnly Departure.lateStores }, { on := 6, ground := Ground.textOnly Departure.lateStoresUnsure }], guard := none }) rfl rfl 23 (.tmp 13) (.tmp 59) rfl _ _ rfl rfl Z2 hst AllReadyH.nil ⟨CZ1.out.trans C6 (fun k hk e => by first | exact e | exact Or.inl e | exact Or.inr e | omega), fun hHeld => ?_⟩
      replace RY' : Hid (Z2.heap[gf]? = some (.cells (S.v8 F) 23 (0, 0))) := r6
      replace RY0' : Hid (Z2.heap[w.heap.size]? = some (.cells (S.v8 D1) 23 (0, 0))) := C6.row RY0'.out (by have := GF.out; omega)
      replace RY1' : Hid (Z2.heap[w.heap.size + 1]? = some (.cells (S.v8 D2) 23 (0, 0))) := C6.row RY1'.out (by have := GF.out; omega)
      have CZ2 : Hid (Chg (fun k => k = gf) Y Z2) := CZ1.out.trans C6 (fun k hk e => by first | exact e | exact Or.inl e | exact Or.inr e | omega)
      clear hst r6 C6 s6 CZ1
      simp only [Act.put]
      refine wpAnyH_take (i := 8) (oi := { dst := some 14, op := Op.assign (Operand.tmp 61), type := 32, pos := "verify.go:33", after := #[{ on := 6, ground := Ground.data }, { on := 7, ground := Ground.chain }, { on := 0, ground := Ground.phase }, { on := 1, ground := Ground.phase }, { on := 2, ground := Ground.phase }, { on := 3, ground := Ground.phase }, { on := 4, ground := Ground.phase }, { on := 5, ground := Ground.phase }, { on := 6, ground := Ground.phase }, { on := 7, ground := Ground.phase }], guard := none }) (v := ?_) rfl (by kernel_rfl) (by kernel_rfl) (by kernel_rfl) (fun _ _ _ h => h) (Or.inl ⟨by rfl, ?_⟩) (by assumption) ?_
      rotate_left
      · intro w hSw
        clear hSw
        go_simp
        all_goals with_reducible rfl
      simp only [Act.put, List.setIfInBounds_toArray, List.set_cons_zero, List.set_cons_succ]
      refine wpAnyH_done (by kernel_rfl) ?_ _
      refine NoPanic.normal ?_
      clear hHeld
      obtain ⟨YF, hYF⟩ : ∃ Z, Z = Z2 := ⟨_, rfl⟩
      rw [← hYF] at CZ2 RY' RY0' RY1' ⊢
      clear hYF
      have BYF := hide (BY.out.trans (CZ2.out.below w.heap.size BY.out.size (fun k hk e => by have := GF.out; omega)))
      have DGT := hide (DGT0.out YF BYF.out)
      have hlf := load_dig RY'.out LF.out
      clear CZ2 DGT0 HRU HTL hsz
      go_wp2_with (with_reducible refine at_op { dst := some 66, op := Op.load 23 (Operand.tmp 13), type := 23, pos := "verify.go:35", after := #[], guard := none } ?_; refine wpList_load_as rfl 23 (.tmp 13) rfl (.pointer (some ⟨gf, 0, none⟩)) rfl (.agg (S.v8 F)) hlf ?_)
      clear hlf
      refine (grow_any a _ m n F LF.out ps' YF (by omega) (by omega) hn DGT.out (HK.out.below BYF.out h0)).mono ?_
      rintro e w2 ⟨x, y, ok, rfl, hx, hy, hO, hb2⟩
      have hR4 := HR3.out
      rw [S.told_dd ok x y D1 D2 _ hO] at hR4
      have LX := hide hx
      have LY := hide hy
      have R0 : Hid (w2.heap[w.heap.size]? = some (.cells (S.v8 D1) 23 (0, 0))) := (hb2.block _ (block_lt_of_row RY0'.out)).trans RY0'.out
      have R1 : Hid (w2.heap[w.heap.size + 1]? = some (.cells (S.v8 D2) 23 (0, 0))) := (hb2.block _ (block_lt_of_row RY1'.out)).trans RY1'.out
      have B2 := hide (BYF.out.trans (hb2.mono BYF.out.size))
      obtain ⟨A1, A2, Z1, Z2, l1, l2, l3, l4, l5, l6, l7⟩ := lay_dig2 w2 x y LX.out LY.out
      obtain ⟨gx, hgx⟩ : ∃ g, g = w2.heap.size := ⟨_, rfl⟩
      rw [← hgx] at l1 l2 l3 l4 l5 l6
      have RX := hide l5
      have RYY := hide l6
      have R0b : Hid (Z2.heap[w.heap.size]? = some (.cells (S.v8 D1) 23 (0, 0))) := (l7.block _ (block_lt_of_row R0.out)).trans R0.out
      have R1b : Hid (Z2.heap[w.heap.size + 1]? = some (.cells (S.v8 D2) 23 (0, 0))) := (l7.block _ (block_lt_of_row R1.out)).trans R1.out
      have B3 := hide (B2.out.trans (l7.mono B2.out.size))
      obtain ⟨e1, he1⟩ : ∃ e : Bool, e = (x == D1) := ⟨_, rfl⟩
      obtain ⟨e2, he2⟩ : ∃ e : Bool, e = (y == D2) := ⟨_, rfl⟩
      rw [← he1, ← he2] at hR4
      have heq1 : ∀ w, (Op.equalIn 10000 23 (.agg (S.v8 x)) (.agg (S.v8 D1))).run Tryd.prog w = .ok e1 w := fun w => equal_dig x D1 LX.out LD1.out e1 he1.symm w
      have heq2 : ∀ w, (Op.equalIn 10000 23 (.agg (S.v8 y)) (.agg (S.v8 D2))).run Tryd.prog w = .ok e2 w := fun w => equal_dig y D2 LY.out LD2.out e2 he2.symm w
      have HR5 := hide hR4
      clear hx hy hO hb2 hR4 HR3 l5 l6 l7 hgx R0 R1 he1 he2 B2
      go_upto_region 12 with (first | (with_reducible refine at_op { dst := some 15, op := Op.alloc 23, type := 0, pos := "verify.go:35", after := #[], guard := none } ?_; refine wpList_alloc_known rfl 23 rfl (.pointer (some ⟨gx, 0, none⟩)) A1 l1 ?_) | (with_reducible refine at_op { dst := some 16, op := Op.alloc 23, type := 0, pos := "verify.go:35", after := #[], guard := none } ?_; refine wpList_alloc_known rfl 23 rfl (.pointer (some ⟨gx + 1, 0, none⟩)) A2 l2 ?_) | (with_reducible refine at_op { dst := none, op := Op.store 23 (Operand.tmp 15) (Operand.tmp 69), type := 0, pos := "verify.go:35", after := #[{ on := 10, ground := Ground.data }, { on := 7, ground := Ground.data }, { on := 5, ground := Ground.chain }, { on := 0, ground := Ground.phase }, { on := 1, ground := Ground.phase }, { on := 2, ground := Ground.phase }, { on := 3, ground := Ground.phase }, { on := 4, ground := Ground.phase }, { on := 5, ground := Ground.phase }, { on := 6, ground := Ground.phase }, { on := 7, ground := Ground.phase }, { on := 8, ground := Ground.textOnly Departure.lateStores }, { on := 9, ground := Ground.textOnly Departure.lateStores }, { on := 10, ground := Ground.phase }, { on := 11, ground := Ground.phase }], guard := none } ?_; refine wpList_store_as rfl 23 (.tmp 15) (.tmp 69) rfl (.pointer (some ⟨gx, 0, none⟩)) (.agg (S.v8 x)) rfl rfl Z1 l3 ?_) | (with_reducible refine at_op { dst := none, op := Op.store 23 (Operand.tmp 16) (Operand.tmp 70), type := 0, pos := "verify.go:35", after := #[{ on := 11, ground := Ground.data }, { on := 8, ground := Ground.data }, { on := 12, ground := Ground.chain }, { on := 0, ground := Ground.phase }, { on := 1, ground := Ground.phase }, { on := 2, ground := Ground.phase }, { on := 3, ground := Ground.phase }, { on := 4, ground := Ground.phase }, { on := 5, ground := Ground.phase }, { on := 6, ground := Ground.phase }, { on := 7, ground := Ground.phase }, { on := 8, ground := Ground.phase }, { on := 9, ground := Ground.textOnly Departure.lateStores }, { on := 10, ground := Ground.phase }, { on := 11, ground := Ground.phase }, { on := 12, ground := Ground.phase }], guard := none } ?_; refine wpList_store_as rfl 23 (.tmp 16) (.tmp 70) rfl (.pointer (some ⟨gx + 1, 0, none⟩)) (.agg (S.v8 y)) rfl rfl Z2 l4 ?_))
      clear l1 l2 l3 l4
      cases ok with
      | false =>
        go_wp2_with fail
        go_ret
        exact ⟨by rw [HR5.out]; rfl, B3.out⟩
      | true =>
        cases e1 with
        | false =>
          go_wp2_with (first | (with_reducible refine at_op { dst := some 74, op := Op.load 23 (Operand.tmp 15), type := 23, pos := "verify.go:36", after := #[{ on := 1, ground := Ground.guard }], guard := some (1, true) } ?_; refine load_dig_when rfl (.tmp 15) rfl gx rfl x RX.out LX.out ?_) | (with_reducible refine at_op { dst := some 75, op := Op.load 23 (Operand.tmp 9), type := 23, pos := "verify.go:36", after := #[{ on := 1, ground := Ground.guard }], guard := some (1, true) } ?_; refine load_dig_when rfl (.tmp 9) rfl (w.heap.size) rfl D1 R0b.out LD1.out ?_))
          go_ret
          exact ⟨by rw [HR5.out]; rfl, B3.out⟩
        | true =>
          go_wp2_with (first | (with_reducible refine at_op { dst := some 74, op := Op.load 23 (Operand.tmp 15), type := 23, pos := "verify.go:36", after := #[{ on := 1, ground := Ground.guard }], guard := some (1, true) } ?_; refine load_dig_when rfl (.tmp 15) rfl gx rfl x RX.out LX.out ?_) | (with_reducible refine at_op { dst := some 75, op := Op.load 23 (Operand.tmp 9), type := 23, pos := "verify.go:36", after := #[{ on := 1, ground := Ground.guard }], guard := some (1, true) } ?_; refine load_dig_when rfl (.tmp 9) rfl (w.heap.size) rfl D1 R0b.out LD1.out ?_) | (with_reducible refine at_op { dst := some 79, op := Op.load 23 (Operand.tmp 16), type := 23, pos := "verify.go:36", after := #[{ on := 6, ground := Ground.guard }], guard := some (6, true) } ?_; refine load_dig_when rfl (.tmp 16) rfl (gx + 1) rfl y RYY.out LY.out ?_) | (with_reducible refine at_op { dst := some 80, op := Op.load 23 (Operand.tmp 10), type := 23, pos := "verify.go:36", after := #[{ on := 6, ground := Ground.guard }], guard := some (6, true) } ?_; refine load_dig_when rfl (.tmp 10) rfl (w.heap.size + 1) rfl D2 R1b.out LD2.out ?_))
          go_ret
          exact ⟨by rw [HR5.out]; rfl, B3.out⟩
end Go.Proofs.YtlbggkmblkhjoaaDoor
