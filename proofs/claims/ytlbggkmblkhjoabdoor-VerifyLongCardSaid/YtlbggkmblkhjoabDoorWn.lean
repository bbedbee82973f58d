/- The document's answer: is a leaf shown? -/
import Derived.Test.YtlbggkmblkhjoabDoorWm
namespace Go.Proofs.YtlbggkmblkhjoabDoor
open Go.RowKit

theorem rway_all (gh gT : Nat) (a : Int) (v u : Value) (bs : List UInt8) (i n : Nat) (ps : List (List UInt8)) (w : World) (hn : n < 18446744073709551616) (hH : HsAt w gh gT a) (hv : SliceAt w v bs) (hl : bs.length + 1 ≤ 140737488355000) (hu : DgAt w u ps) (hps : ps.length ≤ 90000) :
   Calls Tryd.prog 17 #[.pointer (some ⟨gh, 0, none⟩), v, .int .u64 (i : Int), .int .u64 (n : Int), u] w fun e w' => Wayed w w' e (S.climb a bs i n ps) := by
  by_cases h : i < n
  · exact rway_any gh gT a v u bs i n ps w h hn hH hv hl hu hps
  · refine (rway_none _ v u i n w (by omega)).mono ?_
    rintro e w' ⟨rfl, rfl⟩
    rw [S.climb, if_neg h]
    exact ⟨none, 0, 0, rfl, (fun ts h => nomatch h), Below.refl _ _⟩
theorem S.climb_fit2 {a : Int} {b : List UInt8} {i n : Nat} {ps l : List (List UInt8)} (h : S.climb a b i n ps = some l) (hb : b.length + 1 ≤ 140737488355000) (j : Nat) : (l.getD j []).length ≤ 140737488355000 := by
  unfold S.climb at h
  split at h
  · by_cases hj : j < l.length
    · rcases S.way_texts a _ _ _ _ _ h (l.getD j []) (by rw [List.getD_eq_getElem?_getD, List.getElem?_eq_getElem hj]; exact List.getElem_mem hj) with e | e
      · rw [e]; simpa using hb
      · omega
    · rw [List.getD_eq_getElem?_getD, List.getElem?_eq_none (by omega)]; simp
  · cases h
theorem S.getD_last (l : List (List UInt8)) : l.getD (l.length - 1) [] = S.lastOf l := by rw [S.lastOf, List.getLast?_eq_getElem?, List.getD_eq_getElem?_getD]
set_option maxHeartbeats 16000000 in
set_option maxRecDepth 10000 in
theorem rleaf_any (gh gT : Nat) (a : Int) (v u : Value) (bs : List UInt8) (i n : Nat) (ps : List (List UInt8)) (rt : List UInt8) (hrt : rt.length = 32) (w : World) (hi : i < 18446744073709551616) (hn : n < 18446744073709551616) (hH : HsAt w gh gT a) (hv : SliceAt w v bs) (hl : bs.length + 1 ≤ 140737488355000) (hu : DgAt w u ps) (hps : ps.length ≤ 90000) :
   Calls Tryd.prog 16 #[.pointer (some ⟨gh, 0, none⟩), v, .int .u64 (i : Int), .int .u64 (n : Int), u, .agg (S.v8 rt)] w fun e w' => e = .returned (.bool (S.vLeaf a bs i n ps rt)) ∧ Below w.heap.size w w' := by
  obtain ⟨R, hR⟩ : ∃ R, R = S.vLeaf a bs i n ps rt := ⟨_, rfl⟩
  rw [← hR]
  rw [S.vLeaf_climb a bs i n ps rt hi] at hR
  have HR := hide hR
  obtain ⟨ao, len, cap, rfl, hlen, _⟩ := hv.form
  obtain ⟨uo, uc, rfl⟩ := hu.form
  have HV := hide hv
  have HU := hide hu
  have HH := hide hH
  have HLn := hide hl
  have HPS := hide hps
  have HRT := hide hrt
  obtain ⟨N, hN⟩ : ∃ N, N = ps.length := ⟨_, rfl⟩
  rw [← hN] at HU ⊢
  clear hv hH hl hlen hu hN hps hrt hR
  go_enter Tryd.func16, Tryd.ntmps16
  go_wp2_with fail
  generalize hW0 : w.alloc _ = W0
  have B0 : Below w.heap.size w W0 := by rw [← hW0]; exact (Below.refl _ _).alloc (Nat.le_refl _) _
  have s0 : W0.heap.size = w.heap.size + 1 := by rw [← hW0]; simp
  have r0 : W0.heap[w.heap.size]? = some (.cells (S.v8 rt) 31 (0, 0)) := by rw [← hW0]; exact heap_alloc_new _ _
  have BB : Hid (Below w.heap.size w W0) := B0
  have Q0 : Hid (W0.heap[w.heap.size]? = some (.cells (S.v8 rt) 31 (0, 0))) := r0
  clear hW0 B0 s0 r0
  refine (rway_all gh gT a _ _ bs i n ps W0 hn (HH.out.below BB.out (Nat.le_refl _)) (HV.out.below BB.out (Nat.le_refl _)) HLn.out (HU.out.below BB.out) HPS.out).mono ?_
  rintro e w2 ⟨so, sl, sc, rfl, hts, hb⟩
  have HB := hide (BB.out.trans (hb.mono BB.out.size))
  have Q : Hid (w2.heap[w.heap.size]? = some (.cells (S.v8 rt) 31 (0, 0))) := (hb.block _ (block_lt_of_row Q0.out)).trans Q0.out
  have HH2 : Hid (HsAt w2 gh gT a) := HH.out.below HB.out (Nat.le_refl _)
  clear HU HV hb BB Q0
  cases hc : S.climb a bs i n ps with
  | none =>
    simp only [Option.isSome_none]
    have HR2 := hide (show R = false by rw [HR.out, hc])
    clear hts hc HR
    go_wp2_with fail
    go_ret
    exact ⟨by rw [HR2.out]; rfl, HB.out⟩
  | some ts =>
    simp only [Option.isSome_some]
    have htx := hts ts hc
    have hR2 : R = (S.hsh a (S.lastOf ts) == S.cut rt (S.cw a)) := by rw [HR.out, hc]
    have hlen := S.climb_len hc
    have hfit := S.climb_fit2 hc HLn.out (ts.length - 1)
    rw [S.getD_last] at hfit
    obtain ⟨m, hm⟩ : ∃ m, m = ts.length - 1 := ⟨_, rfl⟩
    obtain ⟨bl, offl, cl, e9, e9', e9b, hcl⟩ := htx.bsAt.src (by omega)
    simp only [Value.slice.injEq] at e9
    obtain ⟨rfl, e9n, rfl⟩ := e9
    obtain ⟨x, hx, hxs⟩ := hcl m (by omega)
    rw [hm, S.getD_last] at hxs
    obtain ⟨xo, xl, xc, rfl, hxl, hxm⟩ := hxs.form
    have CX := hide hx
    have XS := hide hxs
    have HBLT := hide e9b
    have HTL := hide hfit
    have e1 : IntKind.i64.wrap ((sl : Int) - 1) = (m : Int) := by rw [IntKind.wrap_i64]; have := HPS.out; omega
    have qk0 : (0 : Int) ≤ (m : Int) := by omega
    have qkm : (m : Int) < (sl : Int) := by omega
    obtain ⟨cwa, hcwa⟩ : ∃ c, c = S.cw a := ⟨_, rfl⟩
    have HCW := hide hcwa
    obtain ⟨D, hD⟩ : ∃ D, D = S.hsh a (S.lastOf ts) := ⟨_, rfl⟩
    obtain ⟨E, hE⟩ : ∃ E, E = S.cut rt cwa := ⟨_, rfl⟩
    have LD := hide (show D.length = 32 by rw [hD, S.hsh_length])
    have LE := hide (show E.length = 32 by rw [hE, S.cut_length]; exact HRT.out)
    rw [← hD, ← hcwa, ← hE] at hR2
    have heq : ∀ w, (Op.equalIn 10000 31 (.agg (S.v8l D).toArray) (.agg (S.v8 E))).run Tryd.prog w = .ok R w := fun w => by rw [← S.v8_eq]; exact equal_dig D E LD.out LE.out R hR2.symm w
    have ED := hide hD
    have EE := hide hE
    have hsz := size_dig rt HRT.out
    have hsz2 : (Tryd.prog.info? 31).map (·.size) = some (S.v8l D).length := by rw [S.v8l_length, LD.out]; exact size23
    clear hts hc htx hR2 hlen hfit hm e9n e9' e9b hcl hx hxs hxl hxm hcwa hD hE HR
    go_upto_region 4 with fail
    go_cut [15] from 27 (fun p15 wc => ∃ g15, p15 = .pointer (some ⟨g15, 0, none⟩) ∧ Hid (wc.heap[g15]? = some (.cells (S.v8 D) 31 (0, 0))) ∧ Hid (Below w2.heap.size w2 wc))
    case first =>
      clear heq
      refine wp_region_noPanic ?_
      refine wp_region_held_drew (S := (fun W => Chg (fun _ => False) w2 W)) follows ((Chg.refl _ _).drew) (fun hHeld => ?_)
      clear hHeld
      have hHeld : Chg (fun _ => False) w2 w2.drew := (Chg.refl _ _).drew
      have CZ0 := hide hHeld
      generalize w2.drew = Z0 at CZ0 hHeld ⊢
      refine wpAnyH_take (i := 0) (oi := { dst := some 27, op := Op.move (Operand.tmp 0), type := 25, pos := "ref.go:16", after := #[], guard := none }) (v := ?_) rfl (by kernel_rfl) (by kernel_rfl) (by kernel_rfl) (fun _ _ _ h => h) (Or.inl ⟨by rfl, ?_⟩) (by assumption) ?_
      rotate_left
      · intro w hSw
        clear hSw
        go_simp
        all_goals with_reducible rfl
      simp only [Act.put, List.setIfInBounds_toArray, List.set_cons_zero, List.set_cons_succ]
      refine wpAnyH_take (i := 1) (oi := { dst := some 28, op := Op.nilCheck (Operand.tmp 27), type := 0, pos := "ref.go:16", after := #[{ on := 0, ground := Ground.data }], guard := none }) (v := ?_) rfl (by kernel_rfl) (by kernel_rfl) (by kernel_rfl) (fun _ _ _ h => h) (Or.inl ⟨by rfl, ?_⟩) (by assumption) ?_
      rotate_left
      · intro w hSw
        clear hSw
        go_simp
        all_goals with_reducible rfl
      simp only [Act.put, List.setIfInBounds_toArray, List.set_cons_zero, List.set_cons_succ]
      refine wpAnyH_take (i := 2) (oi := { dst := some 29, op := Op.fieldAddr 36 (Operand.tmp 28) 0, type := 0, pos := "ref.go:16", after := #[{ on := 1, ground := Ground.data }], guard := none }) (v := ?_) rfl (by kernel_rfl) (by kernel_rfl) (by kernel_rfl) (fun _ _ _ h => h) (Or.inl ⟨by rfl, ?_⟩) (by assumption) ?_
      rotate_left
      · intro w hSw
        clear hSw
        go_simp
        all_goals with_reducible rfl
      simp only [Act.put, List.setIfInBounds_toArray, List.set_cons_zero, List.set_cons_succ]
      refine wpAnyH_take (i := 3) (oi := { dst := some 30, op := Op.load 34 (Operand.tmp 29), type := 34, pos := "ref.go:16", after := #[{ on := 2, ground := Ground.data }], guard := none }) (v := ?_) rfl (by kernel_rfl) (by kernel_rfl) (by kernel_rfl) (fun _ _ _ h => h) (Or.inl ⟨by rfl, ?_⟩) (by assumption) ?_
      rotate_left
      · intro w hSw
        have c4 := (cells2 (HH2.out.below (hSw.below _ (Nat.le_refl _) (fun _ _ e => e)) (Nat.le_refl _)).h).1
        clear hSw
        go_simp
        all_goals with_reducible rfl
      simp only [Act.put, List.setIfInBounds_toArray, List.set_cons_zero, List.set_cons_succ]
      refine wpAnyH_take (i := 4) (oi := { dst := some 31, op := Op.move (Operand.tmp 13), type := 39, pos := "ref.go:16", after := #[], guard := none }) (v := ?_) rfl (by kernel_rfl) (by kernel_rfl) (by kernel_rfl) (fun _ _ _ h => h) (Or.inl ⟨by rfl, ?_⟩) (by assumption) ?_
      rotate_left
      · intro w hSw
        clear hSw
        go_simp
        all_goals with_reducible rfl
      simp only [Act.put, List.setIfInBounds_toArray, List.set_cons_zero, List.set_cons_succ]
      refine wpAnyH_take (i := 5) (oi := { dst := some 32, op := Op.move (Operand.tmp 13), type := 39, pos := "ref.go:16", after := #[], guard := none }) (v := ?_) rfl (by kernel_rfl) (by kernel_rfl) (by kernel_rfl) (fun _ _ _ h => h) (Or.inl ⟨by rfl, ?_⟩) (by assumption) ?_
      rotate_left
      · intro w hSw
        clear hSw
        go_simp
        all_goals with_reducible rfl
      simp only [Act.put, List.setIfInBounds_toArray, List.set_cons_zero, List.set_cons_succ]
      refine wpAnyH_take (i := 6) (oi := { dst := some 33, op := Op.call { callee := Callee.builtin Builtin.len, args := #[Operand.tmp 32], argTypes := #[39] }, type := 3, pos := "ref.go:16", after := #[{ on := 5, ground := Ground.data }], guard := none }) (v := ?_) rfl (by kernel_rfl) (by kernel_rfl) (by kernel_rfl) (fun _ _ _ h => h) (Or.inl ⟨by rfl, ?_⟩) (by assumption) ?_
      rotate_left
      · intro w hSw
        clear hSw
        go_simp
        all_goals with_reducible rfl
      simp only [Act.put, List.setIfInBounds_toArray, List.set_cons_zero, List.set_cons_succ]
      refine wpAnyH_take (i := 7) (oi := { dst := some 34, op := Op.binOp BinOp.sub 3 (Operand.tmp 33) (Operand.const (Value.int IntKind.i64 1)) 3, type := 3, pos := "ref.go:16", after := #[{ on := 6, ground := Ground.data }], guard := none }) (v := ?_) rfl (by kernel_rfl) (by kernel_rfl) (by kernel_rfl) (fun _ _ _ h => h) (Or.inl ⟨by rfl, ?_⟩) (by assumption) ?_
      rotate_left
      · intro w hSw
        clear hSw
        go_simp
        all_goals with_reducible rfl
      simp only [Act.put, List.setIfInBounds_toArray, List.set_cons_zero, List.set_cons_succ]
      refine wpAnyH_take (i := 8) (oi := { dst := some 35, op := Op.indexAddr 39 (Operand.tmp 31) (Operand.tmp 34), type := 0, pos := "ref.go:16", after := #[{ on := 4, ground := Ground.data }, { on := 7, ground := Ground.data }], guard := none }) (v := ?_) rfl (by kernel_rfl) (by kernel_rfl) (by kernel_rfl) (fun _ _ _ h => h) (Or.inl ⟨by rfl, ?_⟩) (by assumption) ?_
      rotate_left
      · intro w hSw
        clear hSw
        go_simp
        all_goals with_reducible rfl
      simp only [Act.put, List.setIfInBounds_toArray, List.set_cons_zero, List.set_cons_succ]
      refine wpAnyH_take (i := 9) (oi := { dst := some 36, op := Op.load 22 (Operand.tmp 35), type := 22, pos := "ref.go:16", after := #[{ on := 8, ground := Ground.data }], guard := none }) (v := ?_) rfl (by kernel_rfl) (by kernel_rfl) (by kernel_rfl) (fun _ _ _ h => h) (Or.inl ⟨by rfl, ?_⟩) (by assumption) ?_
      rotate_left
      · intro w hSw
        have c4 := ((hSw.below _ (Nat.le_refl _) (fun _ _ e => e)).cell (p := ⟨bl, offl + m, none⟩) HBLT.out).trans CX.out
        clear hSw
        go_simp
        all_goals with_reducible rfl
      simp only [Act.put, List.setIfInBounds_toArray, List.set_cons_zero, List.set_cons_succ]
      refine wpAnyH_take (i := 11) (oi := { dst := some 38, op := Op.move (Operand.tmp 0), type := 25, pos := "ref.go:16", after := #[], guard := none }) (v := ?_) rfl (by kernel_rfl) (by kernel_rfl) (by kernel_rfl) (fun _ _ _ h => h) (Or.inl ⟨by rfl, ?_⟩) (by assumption) ?_
      rotate_left
      · intro w hSw
        clear hSw
        go_simp
        all_goals with_reducible rfl
      simp only [Act.put, List.setIfInBounds_toArray, List.set_cons_zero, List.set_cons_succ]
      refine wpAnyH_take (i := 12) (oi := { dst := some 39, op := Op.nilCheck (Operand.tmp 38), type := 0, pos := "ref.go:16", after := #[{ on := 11, ground := Ground.data }], guard := none }) (v := ?_) rfl (by kernel_rfl) (by kernel_rfl) (by kernel_rfl) (fun _ _ _ h => h) (Or.inl ⟨by rfl, ?_⟩) (by assumption) ?_
      rotate_left
      · intro w hSw
        clear hSw
        go_simp
        all_goals with_reducible rfl
      simp only [Act.put, List.setIfInBounds_toArray, List.set_cons_zero, List.set_cons_succ]
      refine wpAnyH_take (i := 13) (oi := { dst := some 40, op := Op.fieldAddr 36 (Operand.tmp 39) 1, type := 0, pos := "ref.go:16", after := #[{ on := 12, ground := Ground.data }], guard := none }) (v := ?_) rfl (by kernel_rfl) (by kernel_rfl) (by kernel_rfl) (fun _ _ _ h => h) (Or.inl ⟨by rfl, ?_⟩) (by assumption) ?_
      rotate_left
      · intro w hSw
        clear hSw
        go_simp
        all_goals with_reducible rfl
      simp only [Act.put, List.setIfInBounds_toArray, List.set_cons_zero, List.set_cons_succ]
      refine wpAnyH_take (i := 14) (oi := { dst := some 41, op := Op.load 3 (Operand.tmp 40), type := 3, pos := "ref.go:16", after := #[{ on := 13, ground := Ground.data }], guard := none }) (v := ?_) rfl (by kernel_rfl) (by kernel_rfl) (by kernel_rfl) (fun _ _ _ h => h) (Or.inl ⟨by rfl, ?_⟩) (by assumption) ?_
      rotate_left
      · intro w hSw
        have c4 : w.cell? ⟨gh, 1, none⟩ = some (.int .i64 (cwa : Int)) := by rw [HCW.out]; exact (cells2 (HH2.out.below (hSw.below _ (Nat.le_refl _) (fun _ _ e => e)) (Nat.le_refl _)).h).2
        clear hSw
        go_simp
        all_goals with_reducible rfl
      simp only [Act.put, List.setIfInBounds_toArray, List.set_cons_zero, List.set_cons_succ]
      refine wpAnyH_ready (rs := [10, 16]) (by kernel_rfl) (by simp) ?_
      refine AllReadyH.cons (o := { dst := some 37, op := Op.call { callee := Callee.value (Operand.func 18), args := #[Operand.tmp 30, Operand.tmp 36], argTypes := #[34, 22] }, type := 31, pos := "ref.go:16", after := #[{ on := 3, ground := Ground.data }, { on := 9, ground := Ground.data }], guard := none }) rfl (fun K hK => ?_) ?_
      · skip
        go_simp
        refine (rsum_any gT _ (S.lastOf ts) Z0 (HH2.out.below (CZ0.out.below _ (Nat.le_refl _) (fun _ _ e => e)) (Nat.le_refl _)).t (XS.out.below (CZ0.out.below _ (Nat.le_refl _) (fun _ _ e => e)) (Nat.le_refl _)) HTL.out).mono ?_
        rintro e Z1 ⟨rfl, hb2⟩
        obtain ⟨D0, hD0⟩ : ∃ D, D = S.sum (S.lastOf ts) := ⟨_, rfl⟩
        have LD0 := hide (show D0.length = 32 by rw [hD0, S.sum_length])
        rw [← hD0]
        have ED0 := hide hD0
        clear hD0
        have CZ1 : Hid (Chg (fun _ => False) w2 Z1) := CZ0.out.then hb2
        clear hb2 CZ0
        clear hHeld
        refine hK.out _ _ CZ1.out (fun hHeld => ?_)
        clear hK K
        try simp only [Act.put, List.setIfInBounds_toArray, List.set_cons_zero, List.set_cons_succ]
        refine wpAnyH_ready (rs := [15, 16]) (by kernel_rfl) (by simp) ?_
        refine AllReadyH.cons (o := { dst := some 42, op := Op.call { callee := Callee.value (Operand.func 26), args := #[Operand.tmp 37, Operand.tmp 41], argTypes := #[31, 3] }, type := 31, pos := "ref.go:16", after := #[{ on := 10, ground := Ground.data }, { on := 14, ground := Ground.data }, { on := 10, ground := Ground.chain }], guard := none }) rfl (fun K hK => ?_) ?_
        · skip
          go_simp
          refine (rcut_all D0 LD0.out (cwa : Int) Z1).mono ?_
          rintro e Z2 ⟨rfl, hb2⟩
          rw [show S.cut D0 (cwa : Int).toNat = D by rw [ED0.out, ED.out, HCW.out]; rfl]
          have CZ2 : Hid (Chg (fun _ => False) w2 Z2) := CZ1.out.then hb2
          clear hb2 CZ1
          clear hHeld
          refine hK.out _ _ CZ2.out (fun hHeld => ?_)
          clear hK K
          try simp only [Act.put, List.setIfInBounds_toArray, List.set_cons_zero, List.set_cons_succ]
          refine wpAnyH_ready (rs := [16]) (by kernel_rfl) (by simp) ?_
          refine step_alloc_as (o := { dst := some 15, op := Op.alloc 31, type := 0, pos := "ref.go:16", after := #[], guard := none }) rfl rfl 31 rfl _ _ (alloc31 Z2) AllReadyH.nil ⟨CZ2.out.alloc _, fun hHeld => ?_⟩
          clear hHeld
          simp only [Act.put, List.setIfInBounds_toArray, List.set_cons_zero, List.set_cons_succ]
          obtain ⟨g15, hg15⟩ : ∃ gg, gg = Z2.heap.size := ⟨_, rfl⟩
          rw [← hg15]
          generalize hZ : Z2.alloc _ = Z3
          have hb2 : Below Z2.heap.size Z2 Z3 := by rw [← hZ]; exact (Below.refl _ _).alloc (Nat.le_refl _) _
          have Rg15 : Hid (Z3.heap[g15]? = some (.cells (S.v8 (S.zeros 32)) 31 (0, 0))) := by rw [← hZ, hg15]; exact heap_alloc_new _ _
          have Gg15 := hide (show w2.heap.size ≤ g15 by rw [hg15]; exact CZ2.out.size)
          clear hZ hg15
          have CZ3 : Hid (Chg (fun _ => False) w2 Z3) := CZ2.out.then hb2
          clear hb2 CZ2
          have hHeld := CZ3.out
          refine wpAnyH_ready (rs := [17]) (by kernel_rfl) (by simp) ?_
          obtain ⟨Z4, hst, r6, C6, s6⟩ := store_dig Rg15.out (S.zeros_length _) LD.out
          refine step_store_as (o := { dst := none, op := Op.store 31 (Operand.tmp 15) (Operand.tmp 42), type := 0, pos := "ref.go:16", after := #[{ on := 16, ground := Ground.data }, { on := 15, ground := Ground.data }, { on := 15, ground := Ground.chain }, { on := 0, ground := Ground.phase }, { on := 1, ground := Ground.phase }, { on := 2, ground := Ground.phase }, { on := 3, ground := Ground.phase }, { on := 4, ground := Ground.phase }, { on := 5, ground := Ground.phase }, { on := 6, ground := Ground.phase }, { on := 7, ground := Ground.phase }, { on := 8, ground := Ground.phase }, { on := 9, ground := Ground.phase }, { on := 10, ground := Ground.phase }, { on := 11, ground := Ground.phase }, { on := 12, ground := Ground.phase }, { on := 13, ground := Ground.phase }, { on := 14, ground := Ground.phase }, { on := 15, ground := Ground.phase }, { on := 16, ground := Ground.phase }], guard := none }) rfl rfl 31 (.tmp 15) (.tmp 42) rfl _ _ rfl rfl Z4 hst AllReadyH.nil ⟨CZ3.out.trans C6 (fun k hk e => by have := Gg15.out; omega), fun hHeld => ?_⟩
          replace Rg15 : Hid (Z4.heap[g15]? = some (.cells (S.v8 D) 31 (0, 0))) := r6
          have CZ4 : Hid (Chg (fun _ => False) w2 Z4) := CZ3.out.trans C6 (fun k hk e => by have := Gg15.out; omega)
          clear hst r6 C6 s6 CZ3
          simp only [Act.put]
          refine wpAnyH_done (by kernel_rfl) ?_ _
          refine NoPanic.normal ?_
          clear hHeld
          have BF := hide (show Below w2.heap.size w2 Z4 from (CZ4.out.below _ (Nat.le_refl _) (fun _ _ e => e)))
          go_wp2_with fail
          go_meet
          case rel => exact ⟨g15, rfl, Rg15, BF⟩
        refine step_alloc_as (o := { dst := some 15, op := Op.alloc 31, type := 0, pos := "ref.go:16", after := #[], guard := none }) rfl rfl 31 rfl _ _ (alloc31 Z1) AllReadyH.nil ⟨CZ1.out.alloc _, fun hHeld => ?_⟩
        clear hHeld
        simp only [Act.put, List.setIfInBounds_toArray, List.set_cons_zero, List.set_cons_succ]
        obtain ⟨g15, hg15⟩ : ∃ gg, gg = Z1.heap.size := ⟨_, rfl⟩
        rw [← hg15]
        generalize hZ : Z1.alloc _ = Z2
        have hb2 : Below Z1.heap.size Z1 Z2 := by rw [← hZ]; exact (Below.refl _ _).alloc (Nat.le_refl _) _
        have Rg15 : Hid (Z2.heap[g15]? = some (.cells (S.v8 (S.zeros 32)) 31 (0, 0))) := by rw [← hZ, hg15]; exact heap_alloc_new _ _
        have Gg15 := hide (show w2.heap.size ≤ g15 by rw [hg15]; exact CZ1.out.size)
        clear hZ hg15
        have CZ2 : Hid (Chg (fun _ => False) w2 Z2) := CZ1.out.then hb2
        clear hb2 CZ1
        have hHeld := CZ2.out
        refine wpAnyH_ready (rs := [15]) (by kernel_rfl) (by simp) ?_
        refine AllReadyH.cons (o := { dst := some 42, op := Op.call { callee := Callee.value (Operand.func 26), args := #[Operand.tmp 37, Operand.tmp 41], argTypes := #[31, 3] }, type := 31, pos := "ref.go:16", after := #[{ on := 10, ground := Ground.data }, { on := 14, ground := Ground.data }, { on := 10, ground := Ground.chain }], guard := none }) rfl (fun K hK => ?_) AllReadyH.nil
        go_simp
        refine (rcut_all D0 LD0.out (cwa : Int) Z2).mono ?_
        rintro e Z3 ⟨rfl, hb2⟩
        rw [show S.cut D0 (cwa : Int).toNat = D by rw [ED0.out, ED.out, HCW.out]; rfl]
        replace Rg15 : Hid (Z3.heap[g15]? = some (.cells (S.v8 (S.zeros 32)) 31 (0, 0))) := (hb2.block _ (block_lt_of_row Rg15.out)).trans Rg15.out
        have CZ3 : Hid (Chg (fun _ => False) w2 Z3) := CZ2.out.then hb2
        clear hb2 CZ2
        clear hHeld
        refine hK.out _ _ CZ3.out (fun hHeld => ?_)
        clear hK K
        try simp only [Act.put, List.setIfInBounds_toArray, List.set_cons_zero, List.set_cons_succ]
        refine wpAnyH_ready (rs := [17]) (by kernel_rfl) (by simp) ?_
        obtain ⟨Z4, hst, r6, C6, s6⟩ := store_dig Rg15.out (S.zeros_length _) LD.out
        refine step_store_as (o := { dst := none, op := Op.store 31 (Operand.tmp 15) (Operand.tmp 42), type := 0, pos := "ref.go:16", after := #[{ on := 16, ground := Ground.data }, { on := 15, ground := Ground.data }, { on := 15, ground := Ground.chain }, { on := 0, ground := Ground.phase }, { on := 1, ground := Ground.phase }, { on := 2, ground := Ground.phase }, { on := 3, ground := Ground.phase }, { on := 4, ground := Ground.phase }, { on := 5, ground := Ground.phase }, { on := 6, ground := Ground.phase }, { on := 7, ground := Ground.phase }, { on := 8, ground := Ground.phase }, { on := 9, ground := Ground.phase }, { on := 10, ground := Ground.phase }, { on := 11, ground := Ground.phase }, { on := 12, ground := Ground.phase }, { on := 13, ground := Ground.phase }, { on := 14, ground := Ground.phase }, { on := 15, ground := Ground.phase }, { on := 16, ground := Ground.phase }], guard := none }) rfl rfl 31 (.tmp 15) (.tmp 42) rfl _ _ rfl rfl Z4 hst AllReadyH.nil ⟨CZ3.out.trans C6 (fun k hk e => by have := Gg15.out; omega), fun hHeld => ?_⟩
        replace Rg15 : Hid (Z4.heap[g15]? = some (.cells (S.v8 D) 31 (0, 0))) := r6
        have CZ4 : Hid (Chg (fun _ => False) w2 Z4) := CZ3.out.trans C6 (fun k hk e => by have := Gg15.out; omega)
        clear hst r6 C6 s6 CZ3
        simp only [Act.put]
        refine wpAnyH_done (by kernel_rfl) ?_ _
        refine NoPanic.normal ?_
        clear hHeld
        have BF := hide (show Below w2.heap.size w2 Z4 from (CZ4.out.below _ (Nat.le_refl _) (fun _ _ e => e)))
        go_wp2_with fail
        go_meet
        case rel => exact ⟨g15, rfl, Rg15, BF⟩
      refine step_alloc_as (o := { dst := some 15, op := Op.alloc 31, type := 0, pos := "ref.go:16", after := #[], guard := none }) rfl rfl 31 rfl _ _ (alloc31 Z0) AllReadyH.nil ⟨CZ0.out.alloc _, fun hHeld => ?_⟩
      clear hHeld
      simp only [Act.put, List.setIfInBounds_toArray, List.set_cons_zero, List.set_cons_succ]
      obtain ⟨g15, hg15⟩ : ∃ gg, gg = Z0.heap.size := ⟨_, rfl⟩
      rw [← hg15]
      generalize hZ : Z0.alloc _ = Z1
      have hb2 : Below Z0.heap.size Z0 Z1 := by rw [← hZ]; exact (Below.refl _ _).alloc (Nat.le_refl _) _
      have Rg15 : Hid (Z1.heap[g15]? = some (.cells (S.v8 (S.zeros 32)) 31 (0, 0))) := by rw [← hZ, hg15]; exact heap_alloc_new _ _
      have Gg15 := hide (show w2.heap.size ≤ g15 by rw [hg15]; exact CZ0.out.size)
      clear hZ hg15
      have CZ1 : Hid (Chg (fun _ => False) w2 Z1) := CZ0.out.then hb2
      clear hb2 CZ0
      have hHeld := CZ1.out
      refine wpAnyH_ready (rs := [10]) (by kernel_rfl) (by simp) ?_
      refine AllReadyH.cons (o := { dst := some 37, op := Op.call { callee := Callee.value (Operand.func 18), args := #[Operand.tmp 30, Operand.tmp 36], argTypes := #[34, 22] }, type := 31, pos := "ref.go:16", after := #[{ on := 3, ground := Ground.data }, { on := 9, ground := Ground.data }], guard := none }) rfl (fun K hK => ?_) AllReadyH.nil
      go_simp
      refine (rsum_any gT _ (S.lastOf ts) Z1 (HH2.out.below (CZ1.out.below _ (Nat.le_refl _) (fun _ _ e => e)) (Nat.le_refl _)).t (XS.out.below (CZ1.out.below _ (Nat.le_refl _) (fun _ _ e => e)) (Nat.le_refl _)) HTL.out).mono ?_
      rintro e Z2 ⟨rfl, hb2⟩
      obtain ⟨D0, hD0⟩ : ∃ D, D = S.sum (S.lastOf ts) := ⟨_, rfl⟩
      have LD0 := hide (show D0.length = 32 by rw [hD0, S.sum_length])
      rw [← hD0]
      have ED0 := hide hD0
      clear hD0
      replace Rg15 : Hid (Z2.heap[g15]? = some (.cells (S.v8 (S.zeros 32)) 31 (0, 0))) := (hb2.block _ (block_lt_of_row Rg15.out)).trans Rg15.out
      have CZ2 : Hid (Chg (fun _ => False) w2 Z2) := CZ1.out.then hb2
      clear hb2 CZ1
      clear hHeld
      refine hK.out _ _ CZ2.out (fun hHeld => ?_)
      clear hK K
      try simp only [Act.put, List.setIfInBounds_toArray, List.set_cons_zero, List.set_cons_succ]
      refine wpAnyH_ready (rs := [15]) (by kernel_rfl) (by simp) ?_
      refine AllReadyH.cons (o := { dst := some 42, op := Op.call { callee := Callee.value (Operand.func 26), args := #[Operand.tmp 37, Operand.tmp 41], argTypes := #[31, 3] }, type := 31, pos := "ref.go:16", after := #[{ on := 10, ground := Ground.data }, { on := 14, ground := Ground.data }, { on := 10, ground := Ground.chain }], guard := none }) rfl (fun K hK => ?_) AllReadyH.nil
      go_simp
      refine (rcut_all D0 LD0.out (cwa : Int) Z2).mono ?_
      rintro e Z3 ⟨rfl, hb2⟩
      rw [show S.cut D0 (cwa : Int).toNat = D by rw [ED0.out, ED.out, HCW.out]; rfl]
      replace Rg15 : Hid (Z3.heap[g15]? = some (.cells (S.v8 (S.zeros 32)) 31 (0, 0))) := (hb2.block _ (block_lt_of_row Rg15.out)).trans Rg15.out
      have CZ3 : Hid (Chg (fun _ => False) w2 Z3) := CZ2.out.then hb2
      clear hb2 CZ2
      clear hHeld
      refine hK.out _ _ CZ3.out (fun hHeld => ?_)
      clear hK K
      try simp only [Act.put, List.setIfInBounds_toArray, List.set_cons_zero, List.set_cons_succ]
      refine wpAnyH_ready (rs := [17]) (by kernel_rfl) (by simp) ?_
      obtain ⟨Z4, hst, r6, C6, s6⟩ := store_dig Rg15.out (S.zeros_length _) LD.out
      refine step_store_as (o := { dst := none, op := Op.store 31 (Operand.tmp 15) (Operand.tmp 42), type := 0, pos := "ref.go:16", after := #[{ on := 16, ground := Ground.data }, { on := 15, ground := Ground.data }, { on := 15, ground := Ground.chain }, { on := 0, ground := Ground.phase }, { on := 1, ground := Ground.phase }, { on := 2, ground := Ground.phase }, { on := 3, ground := Ground.phase }, { on := 4, ground := Ground.phase }, { on := 5, ground := Ground.phase }, { on := 6, ground := Ground.phase }, { on := 7, ground := Ground.phase }, { on := 8, ground := Ground.phase }, { on := 9, ground := Ground.phase }, { on := 10, ground := Ground.phase }, { on := 11, ground := Ground.phase }, { on := 12, ground := Ground.phase }, { on := 13, ground := Ground.phase }, { on := 14, ground := Ground.phase }, { on := 15, ground := Ground.phase }, { on := 16, ground := Ground.phase }], guard := none }) rfl rfl 31 (.tmp 15) (.tmp 42) rfl _ _ rfl rfl Z4 hst AllReadyH.nil ⟨CZ3.out.trans C6 (fun k hk e => by have := Gg15.out; omega), fun hHeld => ?_⟩
      replace Rg15 : Hid (Z4.heap[g15]? = some (.cells (S.v8 D) 31 (0, 0))) := r6
      have CZ4 : Hid (Chg (fun _ => False) w2 Z4) := CZ3.out.trans C6 (fun k hk e => by have := Gg15.out; omega)
      clear hst r6 C6 s6 CZ3
      simp only [Act.put]
      refine wpAnyH_done (by kernel_rfl) ?_ _
      refine NoPanic.normal ?_
      clear hHeld
      have BF := hide (show Below w2.heap.size w2 Z4 from (CZ4.out.below _ (Nat.le_refl _) (fun _ _ e => e)))
      go_wp2_with fail
      go_meet
      case rel => exact ⟨g15, rfl, Rg15, BF⟩
    obtain ⟨g15, rfl, R15, BWC⟩ := hcut
    have HBC := hide (HB.out.trans (BWC.out.mono HB.out.size))
    have HHc : Hid (HsAt wc gh gT a) := HH2.out.below BWC.out (Nat.le_refl _)
    have QC : Hid (wc.heap[w.heap.size]? = some (.cells (S.v8 rt) 31 (0, 0))) := (BWC.out.block _ (block_lt_of_row Q.out)).trans Q.out
    clear HB HH2 BWC CX XS e1 Q
    go_upto_region 5 with fail
    refine wp_region_noPanic ?_
    refine wp_region_held_drew (S := (fun W => Chg (fun _ => False) wc W)) follows ((Chg.refl _ _).drew) (fun hHeld => ?_)
    clear hHeld
    have hHeld : Chg (fun _ => False) wc wc.drew := (Chg.refl _ _).drew
    have CZ0 := hide hHeld
    generalize wc.drew = Z0 at CZ0 hHeld ⊢
    refine wpAnyH_take (i := 0) (oi := { dst := some 43, op := Op.load 31 (Operand.tmp 15), type := 31, pos := "ref.go:17", after := #[], guard := none }) (v := .agg (S.v8l D).toArray) rfl (by kernel_rfl) (by kernel_rfl) (by kernel_rfl) (fun _ _ _ h => h) (yieldsIf_load_mid (by rfl) _ _ rfl g15 0 rfl (S.v8l D) _ (fun _ hSw => rangeAt_row (hSw.row R15.out (fun e => e))) Tryd.underlying31 rfl hsz2) (by assumption) ?_
    simp only [Act.put, List.setIfInBounds_toArray, List.set_cons_zero, List.set_cons_succ]
    refine wpAnyH_take (i := 1) (oi := { dst := some 44, op := Op.load 31 (Operand.tmp 11), type := 31, pos := "ref.go:17", after := #[], guard := none }) (v := .agg (S.v8l rt).toArray) rfl (by kernel_rfl) (by kernel_rfl) (by kernel_rfl) (fun _ _ _ h => h) (yieldsIf_load_mid (by rfl) _ _ rfl w.heap.size 0 rfl (S.v8l rt) _ (fun _ hSw => rangeAt_row (hSw.row QC.out (fun e => e))) Tryd.underlying31 rfl hsz) (by assumption) ?_
    simp only [Act.put, List.setIfInBounds_toArray, List.set_cons_zero, List.set_cons_succ]
    refine wpAnyH_take (i := 2) (oi := { dst := some 45, op := Op.move (Operand.tmp 0), type := 25, pos := "ref.go:17", after := #[], guard := none }) (v := ?_) rfl (by kernel_rfl) (by kernel_rfl) (by kernel_rfl) (fun _ _ _ h => h) (Or.inl ⟨by rfl, ?_⟩) (by assumption) ?_
    rotate_left
    · intro w hSw
      clear hSw
      go_simp
      all_goals with_reducible rfl
    simp only [Act.put, List.setIfInBounds_toArray, List.set_cons_zero, List.set_cons_succ]
    refine wpAnyH_take (i := 3) (oi := { dst := some 46, op := Op.nilCheck (Operand.tmp 45), type := 0, pos := "ref.go:17", after := #[{ on := 2, ground := Ground.data }], guard := none }) (v := ?_) rfl (by kernel_rfl) (by kernel_rfl) (by kernel_rfl) (fun _ _ _ h => h) (Or.inl ⟨by rfl, ?_⟩) (by assumption) ?_
    rotate_left
    · intro w hSw
      clear hSw
      go_simp
      all_goals with_reducible rfl
    simp only [Act.put, List.setIfInBounds_toArray, List.set_cons_zero, List.set_cons_succ]
    refine wpAnyH_take (i := 4) (oi := { dst := some 47, op := Op.fieldAddr 36 (Operand.tmp 46) 1, type := 0, pos := "ref.go:17", after := #[{ on := 3, ground := Ground.data }], guard := none }) (v := ?_) rfl (by kernel_rfl) (by kernel_rfl) (by kernel_rfl) (fun _ _ _ h => h) (Or.inl ⟨by rfl, ?_⟩) (by assumption) ?_
    rotate_left
    · intro w hSw
      clear hSw
      go_simp
      all_goals with_reducible rfl
    simp only [Act.put, List.setIfInBounds_toArray, List.set_cons_zero, List.set_cons_succ]
    refine wpAnyH_take (i := 5) (oi := { dst := some 48, op := Op.load 3 (Operand.tmp 47), type := 3, pos := "ref.go:17", after := #[{ on := 4, ground := Ground.data }], guard := none }) (v := ?_) rfl (by kernel_rfl) (by kernel_rfl) (by kernel_rfl) (fun _ _ _ h => h) (Or.inl ⟨by rfl, ?_⟩) (by assumption) ?_
    rotate_left
    · intro w hSw
      have c4 : w.cell? ⟨gh, 1, none⟩ = some (.int .i64 (cwa : Int)) := by rw [HCW.out]; exact (cells2 (HHc.out.below (hSw.below _ (Nat.le_refl _) (fun _ _ e => e)) (Nat.le_refl _)).h).2
      clear hSw
      go_simp
      all_goals with_reducible rfl
    simp only [Act.put, List.setIfInBounds_toArray, List.set_cons_zero, List.set_cons_succ]
    refine wpAnyH_ready (rs := [6]) (by kernel_rfl) (by simp) ?_
    refine AllReadyH.cons (o := { dst := some 49, op := Op.call { callee := Callee.value (Operand.func 26), args := #[Operand.tmp 44, Operand.tmp 48], argTypes := #[31, 3] }, type := 31, pos := "ref.go:17", after := #[{ on := 1, ground := Ground.data }, { on := 5, ground := Ground.data }], guard := none }) rfl (fun K hK => ?_) AllReadyH.nil
    go_simp
    refine (rcut_all rt HRT.out (cwa : Int) Z0).mono ?_
    rintro e Z1 ⟨rfl, hb2⟩
    rw [show S.cut rt (cwa : Int).toNat = E by rw [EE.out]; rfl]
    have CZ1 : Hid (Chg (fun _ => False) wc Z1) := CZ0.out.then hb2
    clear hb2 CZ0
    clear hHeld
    refine hK.out _ _ CZ1.out (fun hHeld => ?_)
    clear hK K
    try simp only [Act.put, List.setIfInBounds_toArray, List.set_cons_zero, List.set_cons_succ]
    refine wpAnyH_take (i := 7) (oi := { dst := some 50, op := Op.binOp BinOp.eql 31 (Operand.tmp 43) (Operand.tmp 49) 31, type := 4, pos := "ref.go:17", after := #[{ on := 0, ground := Ground.data }, { on := 6, ground := Ground.data }], guard := none }) (v := ?_) rfl (by kernel_rfl) (by kernel_rfl) (by kernel_rfl) (fun _ _ _ h => h) (Or.inl ⟨by rfl, ?_⟩) (by assumption) ?_
    rotate_left
    · intro w hSw
      clear hSw
      go_simp
      all_goals with_reducible rfl
    simp only [Act.put, List.setIfInBounds_toArray, List.set_cons_zero, List.set_cons_succ]
    refine wpAnyH_take (i := 8) (oi := { dst := some 12, op := Op.assign (Operand.tmp 50), type := 4, pos := "ref.go:17", after := #[{ on := 7, ground := Ground.data }, { on := 6, ground := Ground.chain }, { on := 0, ground := Ground.phase }, { on := 1, ground := Ground.phase }, { on := 2, ground := Ground.phase }, { on := 3, ground := Ground.phase }, { on := 4, ground := Ground.phase }, { on := 5, ground := Ground.phase }, { on := 6, ground := Ground.phase }, { on := 7, ground := Ground.phase }], guard := none }) (v := ?_) rfl (by kernel_rfl) (by kernel_rfl) (by kernel_rfl) (fun _ _ _ h => h) (Or.inl ⟨by rfl, ?_⟩) (by assumption) ?_
    rotate_left
    · intro w hSw
      clear hSw
      go_simp
      all_goals with_reducible rfl
    simp only [Act.put, List.setIfInBounds_toArray, List.set_cons_zero, List.set_cons_succ]
    refine wpAnyH_done (by kernel_rfl) ?_ _
    refine NoPanic.normal ?_
    have BF := hide (HBC.out.trans (CZ1.out.below w.heap.size HBC.out.size (fun k hk e => e)))
    clear hHeld heq
    go_wp2_with fail
    go_ret
    exact ⟨rfl, BF.out⟩
end Go.Proofs.YtlbggkmblkhjoabDoor
