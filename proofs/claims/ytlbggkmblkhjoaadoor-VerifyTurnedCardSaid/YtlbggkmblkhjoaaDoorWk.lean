/- Where two ways meet. -/
import Derived.Test.YtlbggkmblkhjoaaDoorWj
import Derived.OwnWalk
namespace Go.Proofs.YtlbggkmblkhjoaaDoor
open Go.RowKit

theorem load_st {w : World} {g o : Nat} {x : Value × List UInt8} (hx : x.2.length = 32) (h : w.rangeAt g o (S.stc x)) : (Instr.loadAt 91 (.pointer (some ⟨g, o, none⟩))).run Tryd.prog w = .ok (.agg (S.stc x).toArray) w :=
  run_loadAt_mid (P := Tryd.prog) w g o 91 (S.stc x) _ h Tryd.underlying91 rfl (by have := size91 x hx; rwa [List.size_toArray] at this)
set_option maxHeartbeats 16000000 in
set_option maxRecDepth 10000 in
theorem meeting_any (a : Int) (B1 B2 : Nat) (v u : Value) (ts us : List (List UInt8)) (j : Nat) (w : World) (h1 : WyIs a B1 w v ts) (h2 : WyIs a B2 w u us) (hl : ts.length = us.length) (hm : ts.length ≤ 100000) (hj : j < ts.length) (hne : ∀ k, k < j → S.hsh a (ts.getD k []) ≠ S.hsh a (us.getD k [])) (heq : S.hsh a (ts.getD j []) = S.hsh a (us.getD j [])) (ht : (ts.getD j []).length ≤ 140737488355328) (hu : (us.getD j []).length ≤ 140737488355328) :
   Calls Tryd.prog 35 #[v, u] w fun e w' => ∃ x y, e = .returned (.tuple #[x, y, .bool true]) ∧ SliceAt w' x (ts.getD j []) ∧ SliceAt w' y (us.getD j []) ∧ Below w.heap.size w w' := by
  have H1 := hide h1
  have H2 := hide h2
  obtain ⟨g1, c1, _, rfl, _⟩ := h1.at j hj
  obtain ⟨g2, c2, _, rfl, _⟩ := h2.at j (by omega)
  have HL := hide hl
  have HNE := hide hne
  have HEQ := hide heq
  have HT := hide ht
  have HUU := hide hu
  obtain ⟨N, hN⟩ : ∃ N, N = ts.length := ⟨_, rfl⟩
  rw [← hl] at H2 ⊢
  rw [← hN] at H1 H2 hm hj ⊢
  have HN := hide hN
  clear h1 h2 hl hne heq ht hu hN
  go_enter Tryd.func35, Tryd.ntmps35
  go_wp2_with fail
  go_loopg [11] (j + 1) (fun gk s11 wr => ∃ k : Nat, k + gk = j + 1 ∧ 0 < gk ∧ s11 = .int .i64 (k : Int) ∧ Hid (Below w.heap.size w wr))
  case atStart => exact ⟨0, by omega, by omega, rfl, Below.refl _ _⟩
  case round =>
    obtain ⟨k, hk, hgk, rfl, hb⟩ := hrel
    have hkN : k < N := by omega
    have qk : (k : Int) < (N : Int) := by omega
    have qk0 : (0 : Int) ≤ (k : Int) := by omega
    have qk1 : IntKind.i64.wrap ((k : Int) + 1) = (k : Int) + 1 := by rw [IntKind.wrap_i64]; omega
    obtain ⟨g1', c1', pv, e1, hg1, r1, r1b, hp1⟩ := (H1.out.below hb.out).at k (by rw [← HN.out]; exact hkN)
    obtain ⟨g2', c2', pu, e2, hg2, r2, r2b, hp2⟩ := (H2.out.below hb.out).at k (by rw [← HL.out, ← HN.out]; exact hkN)
    simp only [Value.slice.injEq, Option.some.injEq, Addr.mk.injEq] at e1 e2
    obtain ⟨⟨rfl, -, -⟩, -, -⟩ := e1
    obtain ⟨⟨rfl, -, -⟩, -, -⟩ := e2
    obtain ⟨D, hD⟩ : ∃ D, D = S.hsh a (ts.getD k []) := ⟨_, rfl⟩
    obtain ⟨E, hE⟩ : ∃ E, E = S.hsh a (us.getD k []) := ⟨_, rfl⟩
    have LD := hide (show D.length = 32 by rw [hD, S.hsh_length])
    have LE := hide (show E.length = 32 by rw [hE, S.hsh_length])
    rw [← hD] at r1 r1b
    rw [← hE] at r2 r2b
    obtain ⟨po, pn, pc, rfl⟩ : ∃ po pn pc, pv = .slice po pn pc := by obtain ⟨g, n, bss, rfl, _⟩ := hp1; exact ⟨_, _, _, rfl⟩
    obtain ⟨uo, un, uc, rfl⟩ : ∃ po pn pc, pu = .slice po pn pc := by obtain ⟨g, n, bss, rfl, _⟩ := hp2; exact ⟨_, _, _, rfl⟩
    have hld := load_st (x := (.slice po pn pc, D)) LD.out r1
    obtain ⟨AL, Z, hal, hst, rz, bz, sz⟩ := lay_st wr (.slice po pn pc, D) LD.out rfl
    obtain ⟨gv, hgv⟩ : ∃ g, g = wr.heap.size := ⟨_, rfl⟩
    rw [← hgv] at hal hst rz
    have RZ := hide rz
    have R2 : Hid (Z.rangeAt g2 (k * 33) (S.stc (.slice uo un uc, E))) := fun i x hx => (bz.cell (p := ⟨g2, k * 33 + i, none⟩) hg2).trans (r2 i x hx)
    have R2B : Hid (Z.rangeAt g2 (k * 33 + 1) (S.v8l E)) := fun i x hx => (bz.cell (p := ⟨g2, k * 33 + 1 + i, none⟩) hg2).trans (r2b i x hx)
    have RD : Hid (Z.rangeAt gv 1 (S.v8l D)) := fun i x hx => by
      rw [cell_of_row Z gv (1 + i) _ _ _ rz, Nat.add_comm 1 i]
      simpa [S.stc] using hx
    have RS : Hid (Z.rangeAt gv 0 (S.stc (.slice po pn pc, D))) := fun i x hx => by
      rw [cell_of_row Z gv (0 + i) _ _ _ rz, Nat.zero_add]
      simpa using hx
    have GV := hide (show gv < Z.heap.size from block_lt_of_row rz)
    have G2 := hide (show g2 < Z.heap.size by omega)
    have P1 := hide (hp1.below bz)
    have P2 := hide (hp2.below bz)
    have BZ := hide (hb.out.trans (bz.mono hb.out.size))
    have hsz : (Tryd.prog.info? 23).map (·.size) = some (S.v8l D).length := by rw [S.v8l_length, LD.out]; exact size23
    have hsz2 : (Tryd.prog.info? 23).map (·.size) = some (S.v8l E).length := by rw [S.v8l_length, LE.out]; exact size23
    obtain ⟨eb, heb⟩ : ∃ b : Bool, b = (D == E) := ⟨_, rfl⟩
    have heqv : ∀ w, (Op.equalIn 10000 23 (.agg (S.v8l D).toArray) (.agg (S.v8l E).toArray)).run Tryd.prog w = .ok eb w := fun w => by rw [← S.v8_eq, ← S.v8_eq]; exact equal_dig D E LD.out LE.out eb heb.symm w
    have HEB := hide heb
    have ED := hide hD
    have EE := hide hE
    clear hg1 r1 r1b hg2 r2 r2b hp1 hp2 hb rz bz sz hgv heb hD hE
    go_upto_region 4 with (first | (with_reducible refine at_op { dst := some 15, op := Op.load 91 (Operand.tmp 14), type := 91, pos := "verify.go:54", after := #[{ on := 1, ground := Ground.data }], guard := none } ?_; refine wpList_load_as rfl 91 (.tmp 14) rfl (.pointer (some ⟨g1, k * 33, none⟩)) rfl (.agg (S.stc (.slice po pn pc, D)).toArray) hld ?_) | (with_reducible refine at_op { dst := some 8, op := Op.alloc 91, type := 0, pos := "verify.go:54", after := #[], guard := none } ?_; refine wpList_alloc_known rfl 91 rfl (.pointer (some ⟨gv, 0, none⟩)) AL hal ?_) | (with_reducible refine at_op { dst := none, op := Op.store 91 (Operand.tmp 8) (Operand.tmp 15), type := 0, pos := "verify.go:54", after := #[{ on := 3, ground := Ground.data }, { on := 2, ground := Ground.data }, { on := 4, ground := Ground.chain }, { on := 0, ground := Ground.phase }, { on := 1, ground := Ground.phase }, { on := 2, ground := Ground.phase }, { on := 3, ground := Ground.phase }, { on := 4, ground := Ground.phase }], guard := none } ?_; refine wpList_store_as rfl 91 (.tmp 8) (.tmp 15) rfl (.pointer (some ⟨gv, 0, none⟩)) (.agg (S.stc (.slice po pn pc, D)).toArray) rfl rfl Z hst ?_))
    clear hld hal hst
    refine wp_region_noPanic ?_
    refine wp_region_held_drew (S := (fun W => Chg (fun _ => False) Z W)) follows ((Chg.refl _ _).drew) (fun hHeld => ?_)
    clear hHeld
    have hHeld : Chg (fun _ => False) Z Z.drew := (Chg.refl _ _).drew
    have CZ0 := hide hHeld
    generalize Z.drew = Z0 at CZ0 hHeld ⊢
    refine wpAnyH_take (i := 0) (oi := { dst := some 16, op := Op.fieldAddr 91 (Operand.tmp 8) 1, type := 0, pos := "verify.go:55", after := #[], guard := none }) (v := ?_) rfl (by kernel_rfl) (by kernel_rfl) (by kernel_rfl) (fun _ _ _ h => h) (Or.inl ⟨by rfl, ?_⟩) (by assumption) ?_
    rotate_left
    · intro w hSw
      clear hSw
      go_simp
      all_goals with_reducible rfl
    simp only [Act.put, List.setIfInBounds_toArray, List.set_cons_zero, List.set_cons_succ]
    refine wpAnyH_take (i := 1) (oi := { dst := some 17, op := Op.load 23 (Operand.tmp 16), type := 23, pos := "verify.go:55", after := #[{ on := 0, ground := Ground.data }], guard := none }) (v := .agg (S.v8l D).toArray) rfl (by kernel_rfl) (by kernel_rfl) (by kernel_rfl) (fun _ _ _ h => h) (yieldsIf_load_mid (by rfl) _ _ rfl gv 1 rfl (S.v8l D) _ (fun _ hSw => (fun i x hx => ((hSw.below _ (Nat.le_refl _) (fun _ _ e => e)).cell (p := ⟨gv, 1 + i, none⟩) GV.out).trans (RD.out i x hx))) Tryd.underlying23 rfl hsz) (by assumption) ?_
    simp only [Act.put, List.setIfInBounds_toArray, List.set_cons_zero, List.set_cons_succ]
    refine wpAnyH_take (i := 2) (oi := { dst := some 18, op := Op.move (Operand.tmp 1), type := 62, pos := "verify.go:55", after := #[], guard := none }) (v := ?_) rfl (by kernel_rfl) (by kernel_rfl) (by kernel_rfl) (fun _ _ _ h => h) (Or.inl ⟨by rfl, ?_⟩) (by assumption) ?_
    rotate_left
    · intro w hSw
      clear hSw
      go_simp
      all_goals with_reducible rfl
    simp only [Act.put, List.setIfInBounds_toArray, List.set_cons_zero, List.set_cons_succ]
    refine wpAnyH_take (i := 3) (oi := { dst := some 19, op := Op.move (Operand.tmp 7), type := 3, pos := "verify.go:55", after := #[], guard := none }) (v := ?_) rfl (by kernel_rfl) (by kernel_rfl) (by kernel_rfl) (fun _ _ _ h => h) (Or.inl ⟨by rfl, ?_⟩) (by assumption) ?_
    rotate_left
    · intro w hSw
      clear hSw
      go_simp
      all_goals with_reducible rfl
    simp only [Act.put, List.setIfInBounds_toArray, List.set_cons_zero, List.set_cons_succ]
    refine wpAnyH_take (i := 4) (oi := { dst := some 20, op := Op.indexAddr 62 (Operand.tmp 18) (Operand.tmp 19), type := 0, pos := "verify.go:55", after := #[{ on := 2, ground := Ground.data }, { on := 3, ground := Ground.data }], guard := none }) (v := ?_) rfl (by kernel_rfl) (by kernel_rfl) (by kernel_rfl) (fun _ _ _ h => h) (Or.inl ⟨by rfl, ?_⟩) (by assumption) ?_
    rotate_left
    · intro w hSw
      clear hSw
      go_simp
      all_goals with_reducible rfl
    simp only [Act.put, List.setIfInBounds_toArray, List.set_cons_zero, List.set_cons_succ]
    refine wpAnyH_take (i := 5) (oi := { dst := some 21, op := Op.fieldAddr 91 (Operand.tmp 20) 1, type := 0, pos := "verify.go:55", after := #[{ on := 4, ground := Ground.data }], guard := none }) (v := ?_) rfl (by kernel_rfl) (by kernel_rfl) (by kernel_rfl) (fun _ _ _ h => h) (Or.inl ⟨by rfl, ?_⟩) (by assumption) ?_
    rotate_left
    · intro w hSw
      clear hSw
      go_simp
      all_goals with_reducible rfl
    simp only [Act.put, List.setIfInBounds_toArray, List.set_cons_zero, List.set_cons_succ]
    refine wpAnyH_take (i := 6) (oi := { dst := some 22, op := Op.load 23 (Operand.tmp 21), type := 23, pos := "verify.go:55", after := #[{ on := 5, ground := Ground.data }], guard := none }) (v := .agg (S.v8l E).toArray) rfl (by kernel_rfl) (by kernel_rfl) (by kernel_rfl) (fun _ _ _ h => h) (yieldsIf_load_mid (by rfl) _ _ rfl g2 (k * 33 + 1) rfl (S.v8l E) _ (fun _ hSw => (fun i x hx => ((hSw.below _ (Nat.le_refl _) (fun _ _ e => e)).cell (p := ⟨g2, k * 33 + 1 + i, none⟩) G2.out).trans (R2B.out i x hx))) Tryd.underlying23 rfl hsz2) (by assumption) ?_
    simp only [Act.put, List.setIfInBounds_toArray, List.set_cons_zero, List.set_cons_succ]
    refine wpAnyH_take (i := 7) (oi := { dst := some 23, op := Op.binOp BinOp.eql 23 (Operand.tmp 17) (Operand.tmp 22) 23, type := 4, pos := "verify.go:55", after := #[{ on := 1, ground := Ground.data }, { on := 6, ground := Ground.data }], guard := none }) (v := ?_) rfl (by kernel_rfl) (by kernel_rfl) (by kernel_rfl) (fun _ _ _ h => h) (Or.inl ⟨by rfl, ?_⟩) (by assumption) ?_
    rotate_left
    · intro w hSw
      clear hSw
      go_simp
      all_goals with_reducible rfl
    simp only [Act.put, List.setIfInBounds_toArray, List.set_cons_zero, List.set_cons_succ]
    refine wpAnyH_done (by kernel_rfl) ?_ _
    refine NoPanic.normal ?_
    clear hHeld heqv
    have BF0 := hide (CZ0.out.below _ (Nat.le_refl _) (fun _ _ e => e))
    have BF := hide (BZ.out.trans (CZ0.out.below w.heap.size BZ.out.size (fun k hk e => e)))
    obtain ⟨Zq, hZq⟩ : ∃ Z, Z = Z0 := ⟨_, rfl⟩
    rw [← hZq] at BF0 BF CZ0 ⊢
    clear hZq CZ0
    by_cases hkj : k = j
    · have hbt : eb = true := by rw [HEB.out, ED.out, EE.out, hkj, HEQ.out]; simp
      subst hbt
      have HKJ := hide hkj
      clear hkj HEB
      have hszs : (Tryd.prog.info? 91).map (·.size) = some (S.stc (.slice po pn pc, D)).length := by have := size91 (.slice po pn pc, D) LD.out; rwa [List.size_toArray] at this
      have hszt : (Tryd.prog.info? 91).map (·.size) = some (S.stc (.slice uo un uc, E)).length := by have := size91 (.slice uo un uc, E) LE.out; rwa [List.size_toArray] at this
      go_wp2_with fail
      refine wp_region_noPanic ?_
      refine wp_region_held_drew (S := (fun W => Chg (fun _ => False) Zq W)) follows ((Chg.refl _ _).drew) (fun hHeld => ?_)
      clear hHeld
      have hHeld : Chg (fun _ => False) Zq Zq.drew := (Chg.refl _ _).drew
      have CZ0 := hide hHeld
      generalize Zq.drew = Z0 at CZ0 hHeld ⊢
      refine wpAnyH_take (i := 0) (oi := { dst := some 24, op := Op.load 91 (Operand.tmp 8), type := 91, pos := "verify.go:56", after := #[], guard := none }) (v := .agg (S.stc (.slice po pn pc, D)).toArray) rfl (by kernel_rfl) (by kernel_rfl) (by kernel_rfl) (fun _ _ _ h => h) (yieldsIf_load_mid (by rfl) _ _ rfl gv 0 rfl (S.stc (.slice po pn pc, D)) _ (fun _ hSw => (fun i x hx => ((BF0.out.trans (hSw.below _ BF0.out.size (fun _ _ e => e))).cell (p := ⟨gv, 0 + i, none⟩) GV.out).trans (RS.out i x hx))) Tryd.underlying91 rfl hszs) (by assumption) ?_
      simp only [Act.put, List.setIfInBounds_toArray, List.set_cons_zero, List.set_cons_succ]
      refine wpAnyH_take (i := 2) (oi := { dst := some 26, op := Op.move (Operand.tmp 1), type := 62, pos := "verify.go:56", after := #[], guard := none }) (v := ?_) rfl (by kernel_rfl) (by kernel_rfl) (by kernel_rfl) (fun _ _ _ h => h) (Or.inl ⟨by rfl, ?_⟩) (by assumption) ?_
      rotate_left
      · intro w hSw
        clear hSw
        go_simp
        all_goals with_reducible rfl
      simp only [Act.put, List.setIfInBounds_toArray, List.set_cons_zero, List.set_cons_succ]
      refine wpAnyH_take (i := 3) (oi := { dst := some 27, op := Op.move (Operand.tmp 7), type := 3, pos := "verify.go:56", after := #[], guard := none }) (v := ?_) rfl (by kernel_rfl) (by kernel_rfl) (by kernel_rfl) (fun _ _ _ h => h) (Or.inl ⟨by rfl, ?_⟩) (by assumption) ?_
      rotate_left
      · intro w hSw
        clear hSw
        go_simp
        all_goals with_reducible rfl
      simp only [Act.put, List.setIfInBounds_toArray, List.set_cons_zero, List.set_cons_succ]
      refine wpAnyH_take (i := 4) (oi := { dst := some 28, op := Op.indexAddr 62 (Operand.tmp 26) (Operand.tmp 27), type := 0, pos := "verify.go:56", after := #[{ on := 2, ground := Ground.data }, { on := 3, ground := Ground.data }], guard := none }) (v := ?_) rfl (by kernel_rfl) (by kernel_rfl) (by kernel_rfl) (fun _ _ _ h => h) (Or.inl ⟨by rfl, ?_⟩) (by assumption) ?_
      rotate_left
      · intro w hSw
        clear hSw
        go_simp
        all_goals with_reducible rfl
      simp only [Act.put, List.setIfInBounds_toArray, List.set_cons_zero, List.set_cons_succ]
      refine wpAnyH_take (i := 5) (oi := { dst := some 29, op := Op.load 91 (Operand.tmp 28), type := 91, pos := "verify.go:56", after := #[{ on := 4, ground := Ground.data }], guard := none }) (v := .agg (S.stc (.slice uo un uc, E)).toArray) rfl (by kernel_rfl) (by kernel_rfl) (by kernel_rfl) (fun _ _ _ h => h) (yieldsIf_load_mid (by rfl) _ _ rfl g2 (k * 33) rfl (S.stc (.slice uo un uc, E)) _ (fun _ hSw => (fun i x hx => ((BF0.out.trans (hSw.below _ BF0.out.size (fun _ _ e => e))).cell (p := ⟨g2, k * 33 + i, none⟩) G2.out).trans (R2.out i x hx))) Tryd.underlying91 rfl hszt) (by assumption) ?_
      simp only [Act.put, List.setIfInBounds_toArray, List.set_cons_zero, List.set_cons_succ]
      refine wpAnyH_ready (rs := [1]) (by kernel_rfl) (by simp) ?_
      refine AllReadyH.cons (o := { dst := some 25, op := Op.call { callee := Callee.value (Operand.func 60), args := #[Operand.tmp 24], argTypes := #[91] }, type := 25, pos := "verify.go:56", after := #[{ on := 0, ground := Ground.data }], guard := none }) rfl (fun K hK => ?_) AllReadyH.nil
      go_simp
      refine (stext_any (.slice po pn pc) D (ts.getD k []) LD.out Z0 (P1.out.below (BF0.out.trans (CZ0.out.below _ BF0.out.size (fun _ _ e => e)))) (by rw [HKJ.out]; exact HT.out)).mono ?_
      rintro e Z1 ⟨gx, rfl, rx, hb2⟩
      have SX := hide (rx.sliceAt (by rw [HKJ.out]; exact HT.out))
      obtain ⟨mx, hmx⟩ : ∃ m, m = (ts.getD k []).length := ⟨_, rfl⟩
      rw [← hmx] at SX ⊢
      clear hmx rx
      have CZ1 : Hid (Chg (fun _ => False) Zq Z1) := CZ0.out.then hb2
      clear hb2 CZ0
      clear hHeld
      refine hK.out _ _ CZ1.out (fun hHeld => ?_)
      clear hK K
      try simp only [Act.put, List.setIfInBounds_toArray, List.set_cons_zero, List.set_cons_succ]
      refine wpAnyH_ready (rs := [6]) (by kernel_rfl) (by simp) ?_
      refine AllReadyH.cons (o := { dst := some 30, op := Op.call { callee := Callee.value (Operand.func 60), args := #[Operand.tmp 29], argTypes := #[91] }, type := 25, pos := "verify.go:56", after := #[{ on := 5, ground := Ground.data }, { on := 1, ground := Ground.chain }], guard := none }) rfl (fun K hK => ?_) AllReadyH.nil
      go_simp
      refine (stext_any (.slice uo un uc) E (us.getD k []) LE.out Z1 (P2.out.below (BF0.out.trans (CZ1.out.below _ BF0.out.size (fun _ _ e => e)))) (by rw [HKJ.out]; exact HUU.out)).mono ?_
      rintro e Z2 ⟨gy, rfl, ry, hb2⟩
      have SY := hide (ry.sliceAt (by rw [HKJ.out]; exact HUU.out))
      obtain ⟨my, hmy⟩ : ∃ m, m = (us.getD k []).length := ⟨_, rfl⟩
      rw [← hmy] at SY ⊢
      clear hmy ry
      replace SX := hide (SX.out.below hb2 (Nat.le_refl _))
      have CZ2 : Hid (Chg (fun _ => False) Zq Z2) := CZ1.out.then hb2
      clear hb2 CZ1
      clear hHeld
      refine hK.out _ _ CZ2.out (fun hHeld => ?_)
      clear hK K
      try simp only [Act.put, List.setIfInBounds_toArray, List.set_cons_zero, List.set_cons_succ]
      refine wpAnyH_take (i := 7) (oi := { dst := some 4, op := Op.assign (Operand.tmp 25), type := 25, pos := "verify.go:56", after := #[{ on := 1, ground := Ground.data }, { on := 6, ground := Ground.chain }, { on := 0, ground := Ground.phase }, { on := 1, ground := Ground.phase }, { on := 2, ground := Ground.textOnly Departure.lateStores }, { on := 3, ground := Ground.textOnly Departure.lateStores }, { on := 4, ground := Ground.textOnly Departure.lateStores }, { on := 5, ground := Ground.textOnly Departure.lateStores }, { on := 6, ground := Ground.textOnly Departure.lateStoresUnsure }], guard := none }) (v := ?_) rfl (by kernel_rfl) (by kernel_rfl) (by kernel_rfl) (fun _ _ _ h => h) (Or.inl ⟨by rfl, ?_⟩) (by assumption) ?_
      rotate_left
      · intro w hSw
        clear hSw
        go_simp
        all_goals with_reducible rfl
      simp only [Act.put, List.setIfInBounds_toArray, List.set_cons_zero, List.set_cons_succ]
      refine wpAnyH_take (i := 8) (oi := { dst := some 5, op := Op.assign (Operand.tmp 30), type := 25, pos := "verify.go:56", after := #[{ on := 6, ground := Ground.data }, { on := 7, ground := Ground.chain }, { on := 0, ground := Ground.phase }, { on := 1, ground := Ground.phase }, { on := 2, ground := Ground.phase }, { on := 3, ground := Ground.phase }, { on := 4, ground := Ground.phase }, { on := 5, ground := Ground.phase }, { on := 6, ground := Ground.phase }, { on := 7, ground := Ground.phase }], guard := none }) (v := ?_) rfl (by kernel_rfl) (by kernel_rfl) (by kernel_rfl) (fun _ _ _ h => h) (Or.inl ⟨by rfl, ?_⟩) (by assumption) ?_
      rotate_left
      · intro w hSw
        clear hSw
        go_simp
        all_goals with_reducible rfl
      simp only [Act.put, List.setIfInBounds_toArray, List.set_cons_zero, List.set_cons_succ]
      refine wpAnyH_take (i := 9) (oi := { dst := some 6, op := Op.assign (Operand.const (Value.bool true)), type := 4, pos := "verify.go:56", after := #[{ on := 8, ground := Ground.chain }, { on := 0, ground := Ground.phase }, { on := 1, ground := Ground.phase }, { on := 2, ground := Ground.phase }, { on := 3, ground := Ground.phase }, { on := 4, ground := Ground.phase }, { on := 5, ground := Ground.phase }, { on := 6, ground := Ground.phase }, { on := 7, ground := Ground.phase }, { on := 8, ground := Ground.phase }], guard := none }) (v := ?_) rfl (by kernel_rfl) (by kernel_rfl) (by kernel_rfl) (fun _ _ _ h => h) (Or.inl ⟨by rfl, ?_⟩) (by assumption) ?_
      rotate_left
      · intro w hSw
        clear hSw
        go_simp
        all_goals with_reducible rfl
      simp only [Act.put, List.setIfInBounds_toArray, List.set_cons_zero, List.set_cons_succ]
      refine wpAnyH_done (by kernel_rfl) ?_ _
      refine NoPanic.normal ?_
      clear hHeld
      have BG := hide (BF.out.trans (CZ2.out.below w.heap.size BF.out.size (fun k hk e => e)))
      go_wp2_with fail
      go_ret3
      exact ⟨_, _, rfl, by rw [← HKJ.out]; exact SX.out, by rw [← HKJ.out]; exact SY.out, BG.out⟩
    · have hbt : eb = false := by
        rw [HEB.out, ED.out, EE.out]
        simpa using HNE.out k (by omega)
      subst hbt
      clear HEB
      go_wp2_with fail
      go_roundg (gk - 1)
      case measure => omega
      case rel => exact ⟨k + 1, by omega, by omega, by first | rfl | simp, BF⟩
end Go.Proofs.YtlbggkmblkhjoaaDoor
